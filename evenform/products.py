"""Elementary sums and whole sums, and the tellings of even polynomials by them."""

from evenform.exchanges import exchange_sum, refuse_uneven
from evenform.polys import gathered, less, multiplied, plus, refuse_bad_count
from evenform.rows import refuse_bad_row, rows, turned_over


def product(many, factors):
    result = [((0,) * many, 1)]
    for factor in factors:
        result = multiplied(result, factor)
    return result


def elementary(many, number):
    if number > many:
        return []
    return exchange_sum(many, (1,) * number)


def elementary_product(many, row):
    return product(many, [elementary(many, number) for number in row])


def elementary_sum(many, row):
    refuse_bad_row(row)
    refuse_bad_count(many)
    return elementary_product(many, row)


def whole(many, number):
    total = []
    for row in rows(number, many):
        total = plus(total, exchange_sum(many, row))
    return total


def whole_sum(many, row):
    refuse_bad_row(row)
    refuse_bad_count(many)
    return product(many, [whole(many, number) for number in row])


# The greatest powers of an even polynomial fall, and they are, once, the greatest
# of the elementary sum of those powers turned: so taking that sum off as often as
# they stand there leaves lesser powers alone.
def by_elementary(many, some):
    refuse_uneven(many, some)
    telling = []
    left = some
    while left != []:
        row = turned_over(left[0][0])
        often = left[0][1]
        telling.append((row, often))
        left = less(left, [(powers, often * number) for powers, number in elementary_product(many, row)])
    return sorted(telling, reverse=True)


def joined(one, other):
    terms = []
    for row, number in one:
        for more, often in other:
            terms.append((tuple(sorted(row + more, reverse=True)), number * often))
    return gathered(terms)


# One rule serves both kinds: where e are elementary sums and h whole sums,
# h(1) e(k-1) - h(2) e(k-2) + h(3) e(k-3) and so on to e(0) is e(k), and with
# power sums in the stead of whole sums it is k times e(k).
def alternating(lesser):
    total = []
    for number in range(1, len(lesser) + 1):
        sign = 1 if number % 2 == 1 else -1
        total = plus(total, joined([((number,), sign)], lesser[-number]))
    return total


def put_in(telling, parts):
    terms = []
    for row, often in telling:
        result = [((), often)]
        for number in row:
            result = joined(result, parts[number])
        terms.extend(result)
    return gathered(terms)


def elementaries_by_whole(many):
    parts = [[((), 1)]]
    while len(parts) <= many:
        parts.append(alternating(parts))
    return parts


def by_whole(many, some):
    return put_in(by_elementary(many, some), elementaries_by_whole(many))
