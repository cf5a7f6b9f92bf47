import functools
import inspect
import unittest

from evenform import rules
from evenform.errors import BadRow
from evenform.fillings import filled_sum
from evenform.products import elementary_sum, whole_sum
from evenform.rules import elementary_rule, whole_rule
from support import (BAD_ROWS, Case, all_rows, check_own, check_refused, in_order, joined_rows, multiplied_out,
                     multiply,
                     row_of, row_sum, rows_within, turned_row)

RULES = ((whole_rule, "whole"), (elementary_rule, "elementary"))


class Interface(unittest.TestCase):
    def test_names_and_arguments(self):
        for name in ("whole_rule", "elementary_rule"):
            self.assertEqual(list(inspect.signature(getattr(rules, name)).parameters), ["row"])


@functools.cache
def found_determinant(row, line, places):
    """The lines from one on with these places left, worked out by the first of these lines."""
    if line == len(row):
        return (((), 1),)
    total = {}
    for order, place in enumerate(places):
        number = row[line] - line + place
        if number >= 0:
            rest = found_determinant(row, line + 1, places[:order] + places[order + 1:])
            for key, often in multiply([(row_of((number,)), (-1) ** order)], rest, joined_rows):
                total[key] = total.get(key, 0) + often
    return tuple(in_order(total))


def determinant(row):
    return list(found_determinant(row, 0, tuple(range(len(row)))))


def summed(sum_of, many, telling):
    """The sums that the program tells of the rows, each so often."""
    total = {}
    for row, often in telling:
        for powers, number in sum_of(many, row):
            total[powers] = total.get(powers, 0) + often * number
    return in_order(total)


class Rules(Case):
    def test_point_17_written_out(self):
        self.assertEqual(whole_rule((3,)), [((3,), 1)])
        self.assertEqual(whole_rule((2, 1)), [((3,), -1), ((2, 1), 1)])
        self.assertEqual(whole_rule((1, 1)), [((2,), -1), ((1, 1), 1)])
        self.assertEqual(whole_rule((1, 1, 1)), [((3,), 1), ((2, 1), -2), ((1, 1, 1), 1)])
        self.assertEqual(whole_rule((2, 2)), [((3, 1), -1), ((2, 2), 1)])
        self.assertEqual(whole_rule((5, 3)), [((6, 2), -1), ((5, 3), 1)])
        self.assertEqual(elementary_rule((1, 1, 1)), [((3,), 1)])
        self.assertEqual(elementary_rule((2,)), [((2,), -1), ((1, 1), 1)])
        self.assertEqual(elementary_rule((3,)), [((3,), 1), ((2, 1), -2), ((1, 1, 1), 1)])
        self.assertEqual(elementary_rule((2, 2)), [((3, 1), -1), ((2, 2), 1)])
        self.assertEqual(elementary_rule((2, 1, 1)), [((4,), -1), ((3, 1), 1)])
        self.assertEqual(elementary_rule((1,) * 8), [((8,), 1)])

    def test_point_17_the_empty_row_once(self):
        self.assertEqual(whole_rule(()), [((), 1)])
        self.assertEqual(elementary_rule(()), [((), 1)])

    def test_point_17_form(self):
        for rule, _ in RULES:
            for row in rows_within(8):
                with self.subTest(rule=rule, row=row):
                    told = rule(row)
                    self.assert_telling(told)
                    for other, _ in told:
                        self.assertEqual(sum(other), sum(row))

    def test_point_17_the_determinant_by_its_first_line(self):
        for row in rows_within(8):
            with self.subTest(row=row):
                self.assertEqual(whole_rule(row), determinant(row))
                self.assertEqual(elementary_rule(row), determinant(turned_row(row)))

    def test_point_17_the_sums_make_the_filled_sum(self):
        for rule, kind in RULES:
            for many in (1, 2, 3, 4):
                for row in rows_within(8):
                    with self.subTest(rule=rule, many=many, row=row):
                        self.assertEqual(multiplied_out(kind, many, rule(row)), row_sum("filling", many, row))

    def test_point_17_as_the_program_tells_the_sums(self):
        for rule, sum_of in ((whole_rule, whole_sum), (elementary_rule, elementary_sum)):
            for many in (1, 2, 3, 4):
                for row in [row for weight in range(7) for row in all_rows(weight)] + [(5, 2), (3, 3, 2), (1,) * 8]:
                    self.assertEqual(summed(sum_of, many, rule(row)), filled_sum(many, row))

    def test_point_7_bad_row(self):
        for rule, _ in RULES:
            before = [rule(row) for row in rows_within(8)]
            for bad in BAD_ROWS:
                check_refused(self, BadRow, rule, bad)
            self.assertEqual([rule(row) for row in rows_within(8)], before)

    def test_point_2_what_was_handed_in_and_told(self):
        for rule, _ in RULES:
            for row in rows_within(8):
                check_own(self, rule, row)
