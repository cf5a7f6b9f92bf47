"""Power sums, and the telling of even polynomials by them, with fractions."""

from evenform.exchanges import exchange_sum
from evenform.polys import refuse_bad_count
from evenform.products import alternating, by_elementary, product, put_in
from evenform.rows import refuse_bad_row


def power_sum(many, row):
    refuse_bad_row(row)
    refuse_bad_count(many)
    return product(many, [exchange_sum(many, (number,)) for number in row])


def common_divisor(one, other):
    while other != 0:
        rest = one % other
        one = other
        other = rest
    return one


def fraction(top, bottom):
    divisor = common_divisor(abs(top), bottom)
    return (top // divisor, bottom // divisor)


def multiplied_up(numbers):
    result = 1
    for number in numbers:
        result = result * number
    return result


# Each elementary sum is told scale times, so that all numbers are whole: by power
# sums the bottoms of that of k divide k times k - 1 and so on to 1. Where the scale
# has this as a divisor for each k, no division here leaves a rest.
def elementaries_by_power(many, scale):
    parts = [[((), scale)]]
    for number in range(1, many + 1):
        parts.append([(row, top // number) for row, top in alternating(parts)])
    return parts


# All rows are filled up with noughts to one length, as each number of a row, and
# a nought too, brings the scale once: so all tops have one bottom.
def by_power(many, some):
    telling = by_elementary(many, some)
    length = max([len(row) for row, often in telling], default=0)
    filled_up = [(row + (0,) * (length - len(row)), often) for row, often in telling]
    scale = multiplied_up(list(range(1, many + 1)))
    bottom = multiplied_up([scale] * length)
    return [(row, fraction(top, bottom)) for row, top in put_in(filled_up, elementaries_by_power(many, scale))]
