"""What several tests need: checks of what is told and refused, samples, and reckoning of the tests' own."""

import collections
import copy
import functools
import itertools
import math
import re
import unittest
from fractions import Fraction

from evenform.errors import BadCount, BadRow, Uneven
from evenform.exchanges import by_exchange
from evenform.fillings import by_fillings
from evenform.powers import by_power
from evenform.products import by_elementary, by_whole

SIXTY = int("9" * 60)
# More figures than Python writes out, as a number may have that was told.
ENDLESS = 10 ** 5000

BAD_ROWS = [(0,), (1, 0), (0, 1), (3, 0, 1), (2, 2, 0), (-1,), (2, -1), (-1, -2), (9, -1), (-SIXTY,),
            (1, 2), (2, 1, 2), (3, 1, 1, 2), (1, 1, 1, 1, 2),
            (9,), (8, 1), (5, 4), (3, 3, 3), (1,) * 9, (1,) * 500, (SIXTY,), (ENDLESS,), (-ENDLESS,), (1, ENDLESS)]
BAD_COUNTS = [0, 5, -1, 6, -4, 500, SIXTY, -SIXTY, ENDLESS, -ENDLESS]
KINDS = ["exchange", "elementary", "whole", "power", "filling"]
BAD_KINDS = ["", " ", "exchang", "exchanges", "Exchange", "WHOLE", " whole", "whole ", "exchange whole", "fillings",
             "powers", "by", "e", "0", "wholepower", "~"]
NUMBERS = [1, -1, 2, SIXTY, -3, -SIXTY, 24, 10 ** 59, -60, 1 - 10 ** 59, 5]


def changed(value):
    """Changes a list in place, as far as it can be changed."""
    if isinstance(value, list):
        value.reverse()
        value.append("changed")
        value.pop(0)


def check_own(case, function, *handed):
    """Point 2: nothing handed in is changed, and what is told is the asker's own."""
    before = copy.deepcopy(handed)
    told = function(*handed)
    case.assertEqual(handed, before)
    kept = copy.deepcopy(told)
    for value in handed:
        changed(value)
    case.assertEqual(told, kept)
    changed(told)
    case.assertEqual(function(*before), kept)


def check_refused(case, refusal, function, *handed):
    """The refusal's very class is raised, and nothing handed in is changed."""
    before = copy.deepcopy(handed)
    with case.assertRaises(refusal) as caught:
        function(*handed)
    case.assertEqual(caught.exception.__class__, refusal)
    case.assertEqual(handed, before)


@functools.cache
def found_powers(many, most):
    found = itertools.product(range(most, -1, -1), repeat=many)
    return tuple(powers for powers in found if sum(powers) <= most)


def all_powers(many, most):
    """All powers of so many unknowns with at most so much together, greater ones first."""
    return list(found_powers(many, most))


def one_of(many):
    return [((0,) * many, 1)]


def all_rows(weight):
    """All rows of a weight, greater ones first, found among all ways to cut the weight into parts."""
    if weight == 0:
        return [()]
    found = []
    for cuts in itertools.product((True, False), repeat=weight - 1):
        parts = [1]
        for cut in cuts:
            if cut:
                parts.append(1)
            else:
                parts[-1] += 1
        if parts == sorted(parts, reverse=True):
            found.append(tuple(parts))
    return sorted(found, reverse=True)


def rows_within(many):
    """All rows of weights 0 to 8 with at most so many numbers."""
    return [row for weight in range(9) for row in all_rows(weight) if len(row) <= many]


def turned_row(row):
    return tuple(len([number for number in row if number > place]) for place in range(max(row, default=0)))


def row_of(powers):
    return tuple(sorted((power for power in powers if power != 0), reverse=True))


def even(many, numbers):
    """The even polynomial that has the orders of each row as often as a dict tells."""
    return [(powers, numbers[row_of(powers)]) for powers in all_powers(many, 8) if numbers.get(row_of(powers), 0) != 0]


def row_numbers(many, weights, seed):
    """How often each row of these weights is taken: some not at all, some with sixty figures."""
    numbers = {}
    for row in rows_within(many):
        seed = (seed * 137 + 71) % 1009
        if sum(row) in weights and seed % 4 != 0:
            numbers[row] = NUMBERS[seed % len(NUMBERS)]
    return numbers


def even_samples(many):
    """0, numbers alone, the exchange sum of each row, sums of each weight, and sums of several weights."""
    taken = [{}, {(): 1}, {(): -SIXTY}, {(): ENDLESS}] + [{row: 1} for row in rows_within(many)]
    taken += [row_numbers(many, (weight,), seed) for weight in range(9) for seed in (1, 5)]
    taken += [row_numbers(many, range(9), seed) for seed in (2, 3)] + [row_numbers(many, (0, 3, 4, 8), 7)]
    return [even(many, numbers) for numbers in taken]


def text_samples(many):
    """The even samples whose numbers can be written out."""
    return [some for some in even_samples(many) if ENDLESS not in dict(some).values()]


def swapped(powers, place):
    numbers = list(powers)
    numbers[place], numbers[place + 1] = powers[place + 1], powers[place]
    return tuple(numbers)


def due_uneven(many, some):
    """Point 9's words, over all powers there are."""
    numbers = dict(some)
    for place in range(many - 1):
        for powers in all_powers(many, 8):
            if numbers.get(powers, 0) != numbers.get(swapped(powers, place), 0):
                return (place, powers)
    return None


def in_order(numbers):
    return [(key, numbers[key]) for key in sorted(numbers, reverse=True) if numbers[key] != 0]


def altered(some, powers, number):
    """A polynomial in which powers have another number, perhaps 0."""
    return in_order({**dict(some), powers: number})


def uneven_samples(many):
    """Polynomials that differ from an even one at one term, and such as differ at many."""
    base = even(many, row_numbers(many, (1, 2, 5), 4))
    found = [[(powers, 1)] for powers in all_powers(many, 3)] + [[(powers, -SIXTY)] for powers in all_powers(many, 2)]
    found += [altered(base, powers, dict(base).get(powers, 0) + 1) for powers in all_powers(many, 5)]
    found += [altered(base, powers, 0) for powers in dict(base)]
    found += [[(powers, 1) for powers in all_powers(many, 4)[start::3]] for start in range(3)]
    return [some for some in found if due_uneven(many, some) is not None]


def multiply(one, other, join):
    """Every key of the one joined with every key of the other, their numbers multiplied, like keys added up."""
    total = {}
    for (left, often), (right, more) in itertools.product(one, other):
        key = join(left, right)
        total[key] = total.get(key, 0) + often * more
    return in_order(total)


def added_powers(one, other):
    return tuple(a + b for a, b in zip(one, other))


def joined_rows(one, other):
    return tuple(sorted(one + other, reverse=True))


def single_sum(kind, many, number):
    """The elementary, whole or power sum of one number, found among all powers."""
    allowed = {"elementary": lambda powers: max(powers) == 1,
               "whole": lambda powers: True,
               "power": lambda powers: max(powers) == number}[kind]
    return [(powers, 1) for powers in all_powers(many, number) if sum(powers) == number and allowed(powers)]


@functools.cache
def found_fillings(many, row):
    if many == 0:
        return ((),) if row == () else ()
    found = []
    for lengths in itertools.product(*(range(after, number + 1) for number, after in zip(row, row[1:] + (0,)))):
        for lines in found_fillings(many - 1, row_of(lengths)):
            filled_up = lines + ((),) * (len(row) - len(lines))
            found.append(tuple(line + (many - 1,) * (number - len(line)) for line, number in zip(filled_up, row)))
    return tuple(sorted(found))


def all_fillings(many, row):
    """All fillings, from those by one number less: the greatest number stands at lines' ends, never beneath itself."""
    return list(found_fillings(many, row))


def sum_of_fillings(many, told):
    """The sum over fillings of how often each number stands in them."""
    return in_order(collections.Counter(tuple(sum(filling, ()).count(number) for number in range(many))
                                        for filling in told))


@functools.cache
def found_sum(kind, many, row):
    if kind == "exchange":
        return tuple(even(many, {row: 1}))
    if kind == "filling":
        return tuple(sum_of_fillings(many, all_fillings(many, row)))
    result = one_of(many)
    for number in row:
        result = multiply(result, single_sum(kind, many, number), added_powers)
    return tuple(result)


def row_sum(kind, many, row):
    """The sum of a row: over its orders by exchange, over all fillings, else the product of those of its numbers."""
    return list(found_sum(kind, many, row))


def multiplied_out(kind, many, telling):
    total = {}
    for row, often in telling:
        for powers, number in row_sum(kind, many, row):
            total[powers] = total.get(powers, 0) + often * number
    return in_order(total)


def with_fractions(told):
    """A shared telling with Python's own fractions."""
    return [(row, Fraction(*fraction)) for row, fraction in told]


def shared(telling):
    """Whole numbers, or Python's own fractions, as shares."""
    return [(row, (Fraction(number).numerator, Fraction(number).denominator)) for row, number in telling]


def told_by(kind, many, some):
    """What the program's own function for a kind tells, with shares."""
    if kind == "power":
        return by_power(many, some)
    tellers = {"exchange": by_exchange, "elementary": by_elementary, "whole": by_whole, "filling": by_fillings}
    return shared(tellers[kind](many, some))


def lets_in(kind, many, row):
    """Point 18: which rows a kind lets in."""
    return (len(row) if kind in ("exchange", "filling") else max(row, default=0)) <= many


def joined_with_signs(parts):
    """Points 19 and 20: parts (number, text without sign) with the numbers' signs ahead."""
    if parts == []:
        return "0"
    text = " ".join(("- " if number < 0 else "+ ") + part for number, part in parts)
    return text.removeprefix("+ ") if text[0] == "+" else "-" + text.removeprefix("- ")


def text_form(many):
    unknowns = "".join(f"(?:{letter}(?:\\^[2-8])?)?" for letter in "xyzw"[:many])
    term = f"(?=[0-9a-z])(?:[1-9][0-9]{{0,59}})?{unknowns}"
    return re.compile(f"0|-?{term}(?: [+-] {term})*")


TEXT_FORMS = {many: text_form(many) for many in (1, 2, 3, 4)}


def polynomial_of(many, line):
    """Point 19's words: the polynomial of a text, or None where it is no text."""
    if TEXT_FORMS[many].fullmatch(line) is None:
        return None
    total = {}
    for term in line.replace(" - ", " + -").split(" + "):
        sign, count, unknowns = re.fullmatch("(-?)([0-9]*)(.*)", term).groups()
        places = dict(re.findall(r"([xyzw])\^?([2-8]?)", unknowns))
        powers = tuple(int(places[letter] or 1) if letter in places else 0 for letter in "xyzw"[:many])
        if sum(powers) > 8:
            return None
        total[powers] = total.get(powers, 0) + int(sign + (count or "1"))
    return in_order(total)


def written(some):
    """A polynomial's text."""
    parts = []
    for powers, number in some:
        unknowns = "".join(letter + f"^{power}" * (power > 1) for letter, power in zip("xyzw", powers) if power > 0)
        count = "" if abs(number) == 1 and unknowns else f"{abs(number)}"
        parts.append((number, count + unknowns))
    return joined_with_signs(parts)


def written_telling(telling):
    """A shared telling's text."""
    parts = []
    for row, (top, bottom) in telling:
        share = "" if (abs(top), bottom) == (1, 1) else f"{abs(top)}" if bottom == 1 else f"{abs(top)}/{bottom}"
        parts.append((top, share + "[" + ",".join(map(str, row)) + "]"))
    return joined_with_signs(parts)


def added_up(one, other):
    """The sum of two tellings or polynomials."""
    keys = set(dict(one)) | set(dict(other))
    return in_order({key: dict(one).get(key, 0) + dict(other).get(key, 0) for key in keys})


def check_sum_refusals(case, function):
    """Points 7 and 10, for a function of n and a row: BadRow, then BadCount; what is asked behind is as before."""
    asked = [(many, row) for many in (1, 2, 3, 4) for row in ((), (1,), (3,))] + [(2, (2, 1)), (4, (2, 1, 1))]
    before = [function(many, row) for many, row in asked]
    for bad in BAD_ROWS:
        for many in [1, 2, 3, 4] + BAD_COUNTS:
            check_refused(case, BadRow, function, many, bad)
    for many in BAD_COUNTS:
        for row in rows_within(8):
            check_refused(case, BadCount, function, many, row)
    case.assertEqual([function(many, row) for many, row in asked], before)


def check_count_refusals(case, function):
    """Point 10, for a function of n and a polynomial: BadCount, whatever else is handed in."""
    for bad in BAD_COUNTS:
        check_refused(case, BadCount, function, bad, [])
        for many in (1, 2, 3, 4):
            for some in even_samples(many)[::9] + uneven_samples(many)[::9]:
                check_refused(case, BadCount, function, bad, some)


def check_uneven(case, due, function, *handed):
    """Uneven is raised with its fields, and nothing handed in is changed."""
    before = copy.deepcopy(handed)
    with case.assertRaises(Uneven) as caught:
        function(*handed)
    case.assertEqual(caught.exception.__class__, Uneven)
    case.assertEqual((caught.exception.place, caught.exception.powers), due)
    case.assertIs(type(caught.exception.place), int)
    case.assertIs(type(caught.exception.powers), tuple)
    case.assertEqual(handed, before)


def check_uneven_refusals(case, function):
    """Point 10, for a function that tells a telling: BadCount, then Uneven; what is asked behind is as before."""
    asked = [(many, some) for many in (1, 2, 3, 4) for some in even_samples(many)[::11]]
    before = [function(many, some) for many, some in asked]
    check_count_refusals(case, function)
    for many in (2, 3, 4):
        for some in uneven_samples(many):
            check_uneven(case, due_uneven(many, some), function, many, some)
    case.assertEqual([function(many, some) for many, some in asked], before)


class Case(unittest.TestCase):
    def assert_form(self, many, some):
        """Point 5's form of a polynomial."""
        self.assertIsInstance(some, list)
        for term in some:
            self.assertIsInstance(term, tuple)
            powers, number = term
            self.assertIsInstance(powers, tuple)
            self.assertEqual(len(powers), many)
            self.assertTrue(all(type(power) is int and power >= 0 for power in powers))
            self.assertLessEqual(sum(powers), 8)
            self.assertIs(type(number), int)
            self.assertNotEqual(number, 0)
        for (powers, _), (later, _) in zip(some, some[1:]):
            self.assertGreater(powers, later)

    def assert_rows_fall(self, told):
        """Point 10's form of a telling, but for its numbers: rows, none twice, greater ones first."""
        self.assertIsInstance(told, list)
        for pair in told:
            self.assertIsInstance(pair, tuple)
            row, _ = pair
            self.assertIsInstance(row, tuple)
            self.assertIn(row, all_rows(sum(row)))
        for (row, _), (later, _) in zip(told, told[1:]):
            self.assertGreater(row, later)

    def assert_telling(self, told):
        self.assert_rows_fall(told)
        for _, number in told:
            self.assertIs(type(number), int)
            self.assertNotEqual(number, 0)

    def assert_fractions(self, told):
        """Point 13's form of fractions."""
        for _, fraction in told:
            self.assertIsInstance(fraction, tuple)
            top, bottom = fraction
            self.assertIs(type(top), int)
            self.assertIs(type(bottom), int)
            self.assertNotEqual(top, 0)
            self.assertGreater(bottom, 0)
            self.assertEqual(math.gcd(top, bottom), 1)

    def assert_no_number_above(self, many, told):
        for row, _ in told:
            self.assertLessEqual(max(row, default=0), many)
