"""A pairing of even polynomials, and tellings by fillings with their rows turned."""

from evenform.fillings import by_fillings
from evenform.rows import turned


# The first polynomial is asked ahead of the second, as it is refused ahead of it.
def pair(many, one, other):
    telling = by_fillings(many, one)
    numbers = dict(by_fillings(many, other))
    return sum([number * numbers.get(row, 0) for row, number in telling])


def flipped(telling):
    return sorted([(turned(row), number) for row, number in telling], reverse=True)
