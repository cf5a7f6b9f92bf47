"""Tellings with fractions, carried from one kind to another."""

from evenform.errors import NoKind, NotBy
from evenform.exchanges import by_exchange, exchange_sum
from evenform.fillings import by_fillings, filled_sum
from evenform.polys import gathered, refuse_bad_count
from evenform.powers import by_power, common_divisor, fraction, power_sum
from evenform.products import by_elementary, by_whole, elementary_sum, whole_sum
from evenform.rows import refuse_bad_rows

KINDS = ("exchange", "elementary", "whole", "power", "filling")


def refuse_no_kind(kind):
    if kind not in KINDS:
        raise NoKind("there is no such kind of telling")


def lets_in(kind, many, row):
    if kind in ("exchange", "filling"):
        return len(row) <= many
    return max(row, default=0) <= many


def refuse_not_by(kind, many, telling):
    for row, share in telling:
        if not lets_in(kind, many, row):
            raise NotBy(row)


def sum_by(kind, many, row):
    if kind == "exchange":
        return exchange_sum(many, row)
    if kind == "elementary":
        return elementary_sum(many, row)
    if kind == "whole":
        return whole_sum(many, row)
    if kind == "power":
        return power_sum(many, row)
    return filled_sum(many, row)


def whole_telling(kind, many, some):
    if kind == "exchange":
        return by_exchange(many, some)
    if kind == "elementary":
        return by_elementary(many, some)
    if kind == "whole":
        return by_whole(many, some)
    return by_fillings(many, some)


def shared_telling(kind, many, some):
    if kind == "power":
        return by_power(many, some)
    return [(row, (number, 1)) for row, number in whole_telling(kind, many, some)]


def common_bottom(telling):
    common = 1
    for row, share in telling:
        common = common * share[1] // common_divisor(common, share[1])
    return common


# The telling is taken so often that all its numbers are whole.
def summed_up(kind, many, telling, often):
    terms = []
    for row, share in telling:
        top = share[0] * (often // share[1])
        terms.extend([(powers, top * number) for powers, number in sum_by(kind, many, row)])
    return gathered(terms)


def carried(many, telling, kind, other):
    refuse_bad_rows(telling)
    refuse_bad_count(many)
    refuse_no_kind(kind)
    refuse_no_kind(other)
    refuse_not_by(kind, many, telling)
    often = common_bottom(telling)
    some = summed_up(kind, many, telling, often)
    return [(row, fraction(share[0], share[1] * often)) for row, share in shared_telling(other, many, some)]
