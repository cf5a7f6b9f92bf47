"""Filled sums as determinants of whole sums, and of elementary sums."""

from evenform.polys import gathered
from evenform.rows import refuse_bad_row, turned


# A way is the places taken, the numbers that stand there, and its sign. From the last
# line up the lines have more and more entries other than 0, among them all places
# taken so far: so each way that is begun can be ended, and few are begun.
def ways_through(row):
    ways = [((), (), 1)]
    for line in range(len(row) - 1, -1, -1):
        longer = []
        for places, numbers, sign in ways:
            for place in range(max(line - row[line], 0), len(row)):
                if place not in places:
                    longer.append((places + (place,), numbers + (row[line] - line + place,),
                                   sign * sign_ahead(place, places)))
        ways = longer
    return ways


# A determinant takes a way with the other sign for each two lines of which the
# earlier one has the later place.
def sign_ahead(place, places):
    return 1 if len([taken for taken in places if taken < place]) % 2 == 0 else -1


def determinant(row):
    terms = []
    for places, numbers, sign in ways_through(row):
        terms.append((tuple(sorted([number for number in numbers if number > 0], reverse=True)), sign))
    return gathered(terms)


def whole_rule(row):
    refuse_bad_row(row)
    return determinant(row)


def elementary_rule(row):
    return determinant(turned(row))
