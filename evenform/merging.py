"""Products of two filled sums, and the fillings that count each part of them."""

from evenform.errors import TooGreat
from evenform.fillings import by_fillings, filled_sum, with_next_line
from evenform.polys import MOST_TOGETHER, multiplied, refuse_bad_count
from evenform.rows import refuse_bad_row


# Asks the rows and not their filled sums: those are 0 where a row has more than n
# numbers, and such rows are refused all the same.
def merged(many, one, other):
    refuse_bad_row(one)
    refuse_bad_row(other)
    refuse_bad_count(many)
    if sum(one) + sum(other) > MOST_TOGETHER:
        raise TooGreat("the rows' numbers are together at most 8")
    return by_fillings(many, multiplied(filled_sum(many, one), filled_sum(many, other)))


def lies_within(one, third):
    return len(one) <= len(third) and all([number <= most for number, most in zip(one, third)])


def read_backward(lines):
    numbers = []
    for line in lines:
        numbers.extend(list(reversed(line)))
    return numbers


# No number comes oftener than the other row tells; where the weights fit, none is
# then rarer either when all lines are there.
def may_go_on(lines, other):
    counts = [0] * len(other)
    for number in read_backward(lines):
        counts[number] += 1
        if counts[number] > other[number]:
            return False
        if number > 0 and counts[number] > counts[number - 1]:
            return False
    return True


# Asks after each line and not at the end: a beginning that may not go on is left at
# once, so few of the many fillings there are get made.
def counted(one, other, third):
    refuse_bad_row(one)
    refuse_bad_row(other)
    refuse_bad_row(third)
    if sum(one) + sum(other) != sum(third) or not lies_within(one, third):
        return []
    inner = one + (0,) * (len(third) - len(one))
    found = [()]
    for again in third:
        found = [lines for lines in with_next_line(len(other), found, inner, third) if may_go_on(lines, other)]
    return found
