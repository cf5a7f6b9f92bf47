import copy
import inspect
import itertools
import math
import unittest
from fractions import Fraction

from evenform import carry
from evenform.carry import carried
from evenform.errors import BadCount, BadRow, NoKind, NotBy
from support import (BAD_COUNTS, BAD_KINDS, BAD_ROWS, ENDLESS, KINDS, SIXTY, Case, added_up, check_own, check_refused,
                     even_samples, in_order, lets_in, multiplied_out, row_sum, rows_within, shared, told_by,
                     with_fractions)

THIRTY = int("7" * 30)


class Interface(unittest.TestCase):
    def test_names_and_arguments(self):
        self.assertEqual(list(inspect.signature(carried).parameters), ["many", "telling", "kind", "other"])
        self.assertIs(carry.carried, carried)


def rows_by(kind, many, weights):
    return sorted((row for row in rows_within(8) if sum(row) in weights and lets_in(kind, many, row)), reverse=True)


def sample(kind, many, weights, seed):
    """A shared telling: some rows left out, fractions of up to thirty figures above and below nought."""
    fractions = {}
    for row in rows_by(kind, many, weights):
        seed = (seed * 137 + 71) % 1009
        if seed % 5 != 0:
            bottom = (1, 2, 3, 6, 8, 360, THIRTY - seed, 10 ** 29)[seed % 8]
            top = (1, 5, seed, THIRTY + seed, 10 ** 29 + 1)[seed % 7 % 5]
            fractions[row] = Fraction((1 - 2 * (seed % 2)) * top, bottom)
    return shared(in_order(fractions))


def samples(kind, many):
    """The empty telling, rows alone, and tellings of weights 0 to 6."""
    found = [[]] + [[(row, (1, 1))] for row in rows_by(kind, many, range(4))]
    found += [[(row, (-THIRTY, 10 ** 29))] for row in rows_by(kind, many, (0, 4, 6))[::3]]
    weights_and_seeds = (((2, 3), 1), ((0, 5), 2), (range(7), 3), (range(7), 4))
    return found + [sample(kind, many, weights, seed) for weights, seed in weights_and_seeds]


class Samples(unittest.TestCase):
    def test_the_samples_have_what_they_are_for(self):
        for kind in KINDS:
            for many in (1, 2, 3, 4):
                shares = [share for telling in samples(kind, many) for _, share in telling]
                self.assertTrue(any(top > 10 ** 29 for top, _ in shares))
                self.assertTrue(any(top < -10 ** 29 for top, _ in shares))
                self.assertTrue(any(bottom > 10 ** 28 for _, bottom in shares))


class Carried(Case):
    def assert_shared(self, kind, many, told):
        """Point 18's form of a shared telling by a kind."""
        self.assert_rows_fall(told)
        self.assert_fractions(told)
        for row, _ in told:
            self.assertTrue(lets_in(kind, many, row))

    def assert_carried(self, many, telling, kind, other):
        """The form, and the same polynomial, multiplied out with a common bottom taken off first."""
        told = carried(many, telling, kind, other)
        self.assert_shared(other, many, told)
        often = math.lcm(*(bottom for _, (_, bottom) in telling + told))
        left, right = ([(row, top * (often // bottom)) for row, (top, bottom) in some] for some in (telling, told))
        self.assertEqual(multiplied_out(other, many, right), multiplied_out(kind, many, left))
        return told

    def test_point_18_written_out(self):
        # x x + y y by each kind, once, and x y / 3.
        squares = {"exchange": [((2,), (1, 1))], "elementary": [((2,), (-2, 1)), ((1, 1), (1, 1))],
                   "whole": [((2,), (2, 1)), ((1, 1), (-1, 1))], "power": [((2,), (1, 1))],
                   "filling": [((2,), (1, 1)), ((1, 1), (-1, 1))]}
        thirds = {"exchange": [((1, 1), (1, 3))], "elementary": [((2,), (1, 3))],
                  "whole": [((2,), (-1, 3)), ((1, 1), (1, 3))], "power": [((2,), (-1, 6)), ((1, 1), (1, 6))],
                  "filling": [((1, 1), (1, 3))]}
        for tellings in (squares, thirds):
            for kind, other in itertools.product(KINDS, repeat=2):
                self.assertEqual(carried(2, tellings[kind], kind, other), tellings[other])
        self.assertEqual(carried(1, [((1, 1, 1), (-5, 7)), ((), (3, 2))], "power", "exchange"),
                         [((3,), (-5, 7)), ((), (3, 2))])
        self.assertEqual(carried(3, [((3,), (1, 1))], "elementary", "power"),
                         [((3,), (1, 3)), ((2, 1), (-1, 2)), ((1, 1, 1), (1, 6))])

    def test_point_18_parts_that_cancel_out(self):
        # x x + x y + y y less x y, and the whole of x x + y y: the row of two ones is gone by exchange.
        self.assertEqual(carried(2, [((2,), (1, 2)), ((1, 1), (-1, 2))], "filling", "exchange"), [((2,), (1, 2))])
        self.assertEqual(carried(2, [((2,), (-2, 9)), ((1, 1), (1, 9))], "elementary", "power"), [((2,), (1, 9))])

    def test_point_18_the_same_polynomial_carried_back_and_over_a_third_kind(self):
        for many in (1, 2, 3, 4):
            for kind in KINDS:
                for telling in samples(kind, many):
                    found = {other: self.assert_carried(many, telling, kind, other) for other in KINDS}
                    self.assertEqual(found[kind], telling)
                    for third, other in itertools.product(KINDS, repeat=2):
                        if len(telling) != 1 or other == kind:
                            self.assertEqual(carried(many, found[third], third, other), found[other])

    def test_point_18_rows_of_weights_7_and_8(self):
        for many in (1, 2, 3, 4):
            for kind, other in itertools.product(KINDS, repeat=2):
                self.assert_carried(many, sample(kind, many, (7, 8), 5), kind, other)

    def test_point_18_as_the_functions_of_each_kind_tell(self):
        for many in (1, 2, 3, 4):
            for some in even_samples(many)[::3]:
                for other in KINDS:
                    told = carried(many, told_by("exchange", many, some), "exchange", other)
                    self.assertEqual(told, told_by(other, many, some))
                    if other != "power":
                        self.assertTrue(all(bottom == 1 for _, (_, bottom) in told))

    def test_point_18_the_sum_of_a_row(self):
        for many in (1, 2, 3, 4):
            for kind in KINDS:
                for row in rows_by(kind, many, (0, 1, 3, 4)):
                    for other in KINDS:
                        told = carried(many, [(row, (1, 1))], kind, other)
                        self.assertEqual(told, told_by(other, many, row_sum(kind, many, row)))

    def test_point_18_a_sum_of_two(self):
        for many in (2, 4):
            for kind, other in itertools.product(KINDS, repeat=2):
                one, two = (with_fractions(sample(kind, many, range(7), seed)) for seed in (6, 7))
                left, right = (with_fractions(carried(many, shared(some), kind, other)) for some in (one, two))
                self.assertEqual(carried(many, shared(added_up(one, two)), kind, other), shared(added_up(left, right)))

    def test_point_18_the_empty_telling(self):
        for many in (1, 2, 3, 4):
            for kind, other in itertools.product(KINDS, repeat=2):
                self.assertEqual(carried(many, [], kind, other), [])

    def test_point_18_the_empty_row(self):
        for many in (1, 2, 3, 4):
            for kind, other in itertools.product(KINDS, repeat=2):
                for share in ((1, 1), (-3, 2), (THIRTY, 10 ** 29)):
                    self.assertEqual(carried(many, [((), share)], kind, other), [((), share)])

    def test_point_3_numbers_of_any_figures(self):
        for kind, other in itertools.product(KINDS, repeat=2):
            telling = [((2, 1), (-ENDLESS - 1, 3)), ((1,), (SIXTY, ENDLESS)), ((), (1, ENDLESS + 1))]
            self.assertEqual(carried(3, self.assert_carried(3, telling, kind, other), other, kind), telling)

    def test_point_2_what_was_handed_in_and_told(self):
        for many in (1, 2, 3, 4):
            for kind, other in itertools.product(KINDS, repeat=2):
                for telling in samples(kind, many)[:2] + samples(kind, many)[-2:]:
                    check_own(self, carried, many, telling, kind, other)


class Refusals(Case):
    def check_not_by(self, due, many, telling, kind, other):
        before = copy.deepcopy(telling)
        with self.assertRaises(NotBy) as caught:
            carried(many, telling, kind, other)
        self.assertEqual(caught.exception.__class__, NotBy)
        self.assertEqual(caught.exception.row, due)
        self.assertIs(type(caught.exception.row), tuple)
        self.assertEqual(telling, before)

    def test_point_18_bad_row_ahead_of_everything_else(self):
        for bad in BAD_ROWS:
            for ahead, behind in (([], []), ([((8,), (1, 1)), ((1,) * 8, (1, 2))], []), ([], [((2,), (3, 1))])):
                telling = ahead + [(bad, (SIXTY, 7))] + behind
                for many, kind, other in ((2, "whole", "power"), (0, "whole", "power"), (5, "", ""),
                                          (1, "exchange", "x"), (4, "x", "filling"),
                                          (-ENDLESS, "elementary", "filling")):
                    check_refused(self, BadRow, carried, many, telling, kind, other)

    def test_point_18_bad_count_ahead_of_the_kinds_and_not_by(self):
        for bad in BAD_COUNTS:
            for telling in ([], [((), (1, 1))], [((8,), (1, 2)), ((1,) * 8, (-1, 2))]):
                for kind, other in itertools.product(KINDS + ["", "Whole"], repeat=2):
                    check_refused(self, BadCount, carried, bad, telling, kind, other)

    def test_point_18_no_kind_for_either_text_ahead_of_not_by(self):
        for bad in BAD_KINDS:
            for telling in ([], [((), (1, 1))], [((8,), (1, 2)), ((1,) * 8, (-1, 2))]):
                for many, kind in itertools.product((1, 2, 3, 4), KINDS):
                    check_refused(self, NoKind, carried, many, telling, kind, bad)
                    check_refused(self, NoKind, carried, many, telling, bad, kind)
                check_refused(self, NoKind, carried, 2, telling, bad, bad)

    def test_point_18_not_by_for_each_row_that_the_first_kind_does_not_let_in(self):
        for many in (1, 2, 3, 4):
            for kind, other in itertools.product(KINDS, repeat=2):
                for row in rows_within(8):
                    if not lets_in(kind, many, row):
                        self.check_not_by(row, many, [(row, (-2, 3))], kind, other)

    def test_point_18_every_row_that_the_first_kind_lets_in_is_taken(self):
        for many in (1, 2, 3, 4):
            for kind in KINDS:
                for row in rows_by(kind, many, range(9)):
                    self.assertEqual(carried(many, [(row, (-2, 3))], kind, kind), [(row, (-2, 3))])

    def test_point_18_not_by_has_the_first_such_row(self):
        for many in (1, 2, 3, 4):
            for kind, other in itertools.product(KINDS, repeat=2):
                rows = sorted(rows_within(8), reverse=True)
                for telling in (rows, rows[::2], rows[::-1], rows[5::7],
                                rows_by(kind, many, range(9)) + [(5,), (1,) * 5]):
                    due = [row for row in telling if not lets_in(kind, many, row)][0]
                    self.check_not_by(due, many, [(row, (1, 2)) for row in telling], kind, other)

    def test_point_4_a_refusal_changes_nothing(self):
        telling = sample("power", 3, range(7), 3)
        before = [carried(3, telling, "power", other) for other in KINDS]
        for handed in ((3, [((0,), (1, 2))], "power", "whole"), (0, telling, "power", "whole"),
                       (3, telling, "", "whole"), (3, telling, "power", "w"), (3, [((4,), (1, 2))], "power", "whole")):
            with self.assertRaises(ValueError):
                carried(*handed)
            self.assertEqual([carried(3, telling, "power", other) for other in KINDS], before)
