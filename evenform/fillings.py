"""Fillings of the boxes that a row stands for, their sums, and the telling of even polynomials by these."""

from evenform.exchanges import falls, refuse_uneven, row_of
from evenform.polys import gathered, multiplied, refuse_bad_count
from evenform.products import product
from evenform.rows import refuse_bad_row


# Lesser numbers are tried first, from the first place on: so lesser lines come first.
def lines_from(least_numbers, many):
    found = [()]
    for least in least_numbers:
        longer = []
        for line in found:
            for number in range(max(line[-1:] + (least,)), many):
                longer.append(line + (number,))
        found = longer
    return found


# Where no box beyond the inner row lies above, a number may be as little as 0.
def least_for_next(lines, inner, outer):
    place = len(lines)
    length = outer[place] - inner[place]
    if place == 0:
        return (0,) * length
    above = (0,) * (inner[place - 1] - inner[place]) + tuple([number + 1 for number in lines[-1]])
    return above[:length]


# The boxes are those of the outer row beyond the inner one, which has as many
# numbers, perhaps noughts. Lesser ones stay first, as each grows behind its end.
def with_next_line(many, found, inner, outer):
    longer = []
    for lines in found:
        for line in lines_from(least_for_next(lines, inner, outer), many):
            longer.append(lines + (line,))
    return longer


def fillings(many, row):
    refuse_bad_row(row)
    refuse_bad_count(many)
    inner = (0,) * len(row)
    found = [()]
    for again in row:
        found = with_next_line(many, found, inner, row)
    return found


def powers_of(many, filling):
    return tuple([sum([line.count(number) for line in filling]) for number in range(many)])


def filled_sum(many, row):
    return gathered([(powers_of(many, filling), 1) for filling in fillings(many, row)])


def unknown_alone(many, place):
    return (0,) * place + (1,) + (0,) * (many - place - 1)


def differences(many):
    factors = []
    for later in range(many):
        for earlier in range(later):
            factors.append([(unknown_alone(many, earlier), 1), (unknown_alone(many, later), -1)])
    return product(many, factors)


# Multiplied by the differences of all two unknowns, a filled sum is, each once with
# a sign, all orders of the row's numbers (and noughts) with n - 1, n - 2 and so on to 0
# put to them. Just one of these orders still falls where they are taken off again: that
# of the row itself, with the number 1.
def by_fillings(many, some):
    refuse_uneven(many, some)
    telling = []
    for powers, number in multiplied(some, differences(many)):
        lowered = tuple([power - many + 1 + place for place, power in enumerate(powers)])
        if falls(lowered):
            telling.append((row_of(lowered), number))
    return telling
