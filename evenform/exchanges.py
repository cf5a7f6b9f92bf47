"""Even polynomials: which exchange changes a polynomial, and its telling by sums over exchanges."""

from evenform.errors import TooLong, Uneven
from evenform.polys import exchanged, less, refuse_bad_count
from evenform.rows import refuse_bad_row


def uneven(many, some):
    refuse_bad_count(many)
    for place in range(many - 1):
        unlike = less(some, exchanged(some, place))
        if unlike != []:
            return (place, unlike[0][0])
    return None


def refuse_uneven(many, some):
    found = uneven(many, some)
    if found is not None:
        raise Uneven(found[0], found[1])


# Of falling numbers the greater orders come first, as a polynomial has its powers.
def orders(numbers):
    if numbers == ():
        return [()]
    found = []
    for place, number in enumerate(numbers):
        if number not in numbers[:place]:
            for rest in orders(numbers[:place] + numbers[place + 1:]):
                found.append((number,) + rest)
    return found


def exchange_sum(many, row):
    refuse_bad_row(row)
    refuse_bad_count(many)
    if len(row) > many:
        raise TooLong("the row has more numbers than there are unknowns")
    return [(powers, 1) for powers in orders(row + (0,) * (many - len(row)))]


def falls(powers):
    return powers == tuple(sorted(powers, reverse=True))


def row_of(powers):
    return tuple([power for power in powers if power > 0])


# Each exchange sum has just one falling powers, and no other sum has it: its
# number is how often the sum is taken.
def by_exchange(many, some):
    refuse_uneven(many, some)
    return [(row_of(powers), number) for powers, number in some if falls(powers)]
