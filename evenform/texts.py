"""Texts: polynomials read and shown, and tellings written."""

from evenform.errors import NoText
from evenform.polys import MOST_TOGETHER, gathered, refuse_bad_count
from evenform.rows import refuse_bad_rows

LETTERS = "xyzw"
FIGURES = "0123456789"
MOST_FIGURES = 60


def read_sign(word):
    if word == "+":
        return 1
    if word == "-":
        return -1
    raise NoText("between two terms stands + or -")


def read_count(figures):
    if figures == "":
        return 1
    if figures.startswith("0") or len(figures) > MOST_FIGURES:
        raise NoText("a count has 1 to 60 figures, the first one no nought")
    return int(figures)


# What stands behind the unknowns stays over, as do unknowns out of their order and
# powers that are none.
def read_powers(many, unknowns):
    powers = []
    left = unknowns
    for letter in LETTERS[:many]:
        power = 0
        if left.startswith(letter):
            power = 1
            left = left[1:]
            if left.startswith("^") and "2" <= left[1:2] <= "8":
                power = int(left[1])
                left = left[2:]
        powers.append(power)
    if left != "" or sum(powers) > MOST_TOGETHER:
        raise NoText("unknowns stand in their order with powers of together at most 8")
    return tuple(powers)


def read_term(many, sign, word):
    if word == "":
        raise NoText("a term has a count or unknowns")
    unknowns = word.lstrip(FIGURES)
    count = read_count(word[:len(word) - len(unknowns)])
    return (read_powers(many, unknowns), read_sign(sign) * count)


# Ahead of the first term no blank stands behind the sign, and no + stands at all:
# put there, they make all terms alike.
def signs_and_terms(line):
    if line.startswith("-"):
        return ("- " + line[1:]).split(" ")
    return ("+ " + line).split(" ")


def read(many, line):
    refuse_bad_count(many)
    if line == "0":
        return []
    words = signs_and_terms(line)
    if len(words) % 2 == 1:
        raise NoText("a sign stands ahead of a term")
    return gathered([read_term(many, sign, word) for sign, word in zip(words[::2], words[1::2])])


def with_power(letter, power):
    if power == 0:
        return ""
    if power == 1:
        return letter
    return f"{letter}^{power}"


# The count 1 says nothing where something else is written.
def count_ahead(count, behind):
    return behind if count == "1" and behind != "" else count + behind


def written_term(powers, number):
    unknowns = "".join([with_power(letter, power) for letter, power in zip(LETTERS, powers)])
    return count_ahead(str(abs(number)), unknowns)


def written_fraction(top, bottom):
    return str(top) if bottom == 1 else f"{top}/{bottom}"


def written_share(row, share):
    numbers = ",".join([str(number) for number in row])
    return count_ahead(written_fraction(abs(share[0]), share[1]), f"[{numbers}]")


def with_signs(written):
    if written == []:
        return "0"
    text = "".join([(" - " if number < 0 else " + ") + word for number, word in written])
    return "-" + text[3:] if written[0][0] < 0 else text[3:]


def shown(many, some):
    refuse_bad_count(many)
    return with_signs([(number, written_term(powers, number)) for powers, number in some])


def told(telling):
    refuse_bad_rows(telling)
    return with_signs([(share[0], written_share(row, share)) for row, share in telling])
