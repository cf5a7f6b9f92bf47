"""Polynomials: lists of terms (powers, number), no powers twice, no number 0, greater powers first."""

from evenform.errors import BadCount, BadPowers, TooGreat

MOST_UNKNOWNS = 4
MOST_TOGETHER = 8


# No refusal writes out what was handed in: Python refuses to write numbers of
# several thousand figures, with an error that is none of ours.
def refuse_bad_count(many):
    if many < 1 or many > MOST_UNKNOWNS:
        raise BadCount("there are 1 to 4 unknowns")


def refuse_bad_powers(many, powers):
    if len(powers) != many:
        raise BadPowers("there is one power for each unknown")
    if min(powers) < 0:
        raise BadPowers("no power is below 0")
    if sum(powers) > MOST_TOGETHER:
        raise BadPowers("powers are together at most 8")


def gathered(terms):
    numbers = {}
    for powers, number in terms:
        numbers[powers] = numbers.get(powers, 0) + number
    return [(powers, numbers[powers]) for powers in sorted(numbers, reverse=True) if numbers[powers] != 0]


def made(many, terms):
    refuse_bad_count(many)
    for powers, number in terms:
        refuse_bad_powers(many, powers)
    return gathered(terms)


def plus(one, other):
    return gathered(one + other)


def less(one, other):
    return gathered(one + [(powers, -number) for powers, number in other])


# Without a bound: what comes of a polynomial that lies beyond 8 is not refused
# where no point says so.
def multiplied(one, other):
    terms = []
    for powers, number in one:
        for more, often in other:
            terms.append((tuple([power + added for power, added in zip(powers, more)]), number * often))
    return gathered(terms)


# Asks the two and not their product: what is refused need not be multiplied.
def refuse_too_great(one, other):
    if one == [] or other == []:
        return
    if max([sum(powers) for powers, number in one]) + max([sum(powers) for powers, number in other]) > MOST_TOGETHER:
        raise TooGreat("powers of a product are together at most 8")


def times(one, other):
    refuse_too_great(one, other)
    return multiplied(one, other)


def value_of(powers, point):
    value = 1
    for power, number in zip(powers, point):
        for again in range(power):
            value = value * number
    return value


def at(some, point):
    return sum([number * value_of(powers, point) for powers, number in some])


def swapped(powers, place):
    return powers[:place] + (powers[place + 1], powers[place]) + powers[place + 2:]


def exchanged(some, place):
    return gathered([(swapped(powers, place), number) for powers, number in some])
