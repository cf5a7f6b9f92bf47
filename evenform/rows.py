"""Falling rows: tuples of whole numbers of 1 or more, none greater than the one before it."""

from evenform.errors import BadRow, UnlikeWeights
from evenform.polys import MOST_TOGETHER


def refuse_bad_row(row):
    if any([number < 1 for number in row]):
        raise BadRow("a row has no number below 1")
    if any([later > number for number, later in zip(row, row[1:])]):
        raise BadRow("a row never rises")
    if sum(row) > MOST_TOGETHER:
        raise BadRow("a row's numbers are together at most 8")


def refuse_bad_rows(telling):
    for row, share in telling:
        refuse_bad_row(row)


def rows_up_to(top, weight, most):
    if weight == 0:
        return [()]
    if most <= 0:
        return []
    found = []
    for first in range(min(top, weight), 0, -1):
        for rest in rows_up_to(first, weight - first, most - 1):
            found.append((first,) + rest)
    return found


def rows(weight, most):
    return rows_up_to(weight, weight, most)


def count_from(row, least):
    return len([number for number in row if number >= least])


# Refuses nothing: powers are turned here as they stand, with noughts behind the
# row's end, and perhaps of a polynomial that lies beyond 8.
def turned_over(row):
    return tuple([count_from(row, place + 1) for place in range(max(row, default=0))])


def turned(row):
    refuse_bad_row(row)
    return turned_over(row)


# A slice beyond a row's end is the whole row, as if noughts went on behind it.
def lies_over(one, other):
    return all([sum(one[:size]) >= sum(other[:size]) for size in range(1, len(other) + 1)])


# Unlike rows of one weight are unlike within both: neither begins the other.
def first_surplus(row, other):
    return [number for number, goal in zip(row, other) if number != goal][0]


# Takes 1 off the last number that is as great as the first surplus, and puts it
# to the first place that stays falling. Up to that place none of the other row's
# numbers is above this row's, so the row that comes still lies over the other one.
def lowered(row, other):
    surplus = first_surplus(row, other)
    numbers = list(row) + [0]
    numbers[count_from(row, surplus) - 1] -= 1
    numbers[count_from(row, surplus - 1)] += 1
    return tuple([number for number in numbers if number > 0])


def steps(one, other):
    refuse_bad_row(one)
    refuse_bad_row(other)
    if sum(one) != sum(other):
        raise UnlikeWeights("the rows have unlike weights")
    if not lies_over(one, other):
        return None
    path = [one]
    while path[-1] != other:
        path.append(lowered(path[-1], other))
    return path
