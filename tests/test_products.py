import inspect
import itertools
import unittest

from evenform import products
from evenform.products import by_elementary, by_whole, elementary_sum, whole_sum
from support import (ENDLESS, SIXTY, Case, added_powers, added_up, check_own, check_sum_refusals, check_uneven_refusals,
                     even, even_samples, joined_rows, multiplied_out, multiply, one_of, row_numbers, row_sum,
                     rows_within)

SUMS = {"elementary": elementary_sum, "whole": whole_sum}
TELLINGS = {"elementary": by_elementary, "whole": by_whole}


class Interface(unittest.TestCase):
    def test_names_and_arguments(self):
        told = {"elementary_sum": ["many", "row"], "whole_sum": ["many", "row"],
                "by_elementary": ["many", "some"], "by_whole": ["many", "some"]}
        for name, arguments in told.items():
            self.assertEqual(list(inspect.signature(getattr(products, name)).parameters), arguments)


class Sums(Case):
    def test_point_11_written_out(self):
        self.assertEqual(elementary_sum(2, (1,)), [((1, 0), 1), ((0, 1), 1)])
        self.assertEqual(elementary_sum(2, (2,)), [((1, 1), 1)])
        self.assertEqual(elementary_sum(2, (2, 1)), [((2, 1), 1), ((1, 2), 1)])
        self.assertEqual(elementary_sum(3, (2,)), [((1, 1, 0), 1), ((1, 0, 1), 1), ((0, 1, 1), 1)])
        self.assertEqual(elementary_sum(4, (4, 4)), [((2, 2, 2, 2), 1)])
        self.assertEqual(elementary_sum(1, (1,) * 8), [((8,), 1)])

    def test_point_12_written_out(self):
        self.assertEqual(whole_sum(2, (1,)), [((1, 0), 1), ((0, 1), 1)])
        self.assertEqual(whole_sum(2, (2,)), [((2, 0), 1), ((1, 1), 1), ((0, 2), 1)])
        self.assertEqual(whole_sum(2, (1, 1)), [((2, 0), 1), ((1, 1), 2), ((0, 2), 1)])
        self.assertEqual(whole_sum(2, (2, 1)), [((3, 0), 1), ((2, 1), 2), ((1, 2), 2), ((0, 3), 1)])
        self.assertEqual(whole_sum(1, (5, 3)), [((8,), 1)])

    def test_points_11_and_12_each_row(self):
        for kind, function in SUMS.items():
            for many in (1, 2, 3, 4):
                for row in rows_within(8):
                    with self.subTest(kind=kind, many=many, row=row):
                        told = function(many, row)
                        self.assert_form(many, told)
                        self.assertEqual(told, row_sum(kind, many, row))

    def test_point_11_a_number_above_n(self):
        for many in (1, 2, 3, 4):
            for row in rows_within(8):
                self.assertEqual(elementary_sum(many, row) == [], max(row, default=0) > many)

    def test_point_12_a_number_above_n_is_no_nought(self):
        for many in (1, 2, 3, 4):
            for row in rows_within(8):
                self.assertEqual(whole_sum(many, row)[0], ((sum(row),) + (0,) * (many - 1), 1))

    def test_points_11_and_12_empty_row(self):
        for many in (1, 2, 3, 4):
            self.assertEqual(elementary_sum(many, ()), one_of(many))
            self.assertEqual(whole_sum(many, ()), one_of(many))

    def test_points_7_and_10_bad_row_ahead_of_bad_count(self):
        for function in SUMS.values():
            check_sum_refusals(self, function)

    def test_point_2_what_was_handed_in_and_told(self):
        for function in SUMS.values():
            for many in (1, 2, 3, 4):
                for row in rows_within(8):
                    check_own(self, function, many, row)


class Tellings(Case):
    def check_telling(self, kind, many, some):
        told = TELLINGS[kind](many, some)
        self.assert_telling(told)
        self.assert_no_number_above(many, told)
        self.assertEqual(multiplied_out(kind, many, told), some)

    def test_point_11_written_out(self):
        # x x + y y + 3 x y is (x + y)(x + y) + x y.
        self.assertEqual(by_elementary(2, [((2, 0), 1), ((1, 1), 3), ((0, 2), 1)]), [((2,), 1), ((1, 1), 1)])
        self.assertEqual(by_elementary(2, [((3, 0), 1), ((0, 3), 1)]), [((2, 1), -3), ((1, 1, 1), 1)])
        self.assertEqual(by_elementary(1, [((3,), 4), ((0,), -7)]), [((1, 1, 1), 4), ((), -7)])

    def test_point_12_written_out(self):
        # x y is (x + y)(x + y) less x x + x y + y y.
        self.assertEqual(by_whole(2, [((1, 1), 1)]), [((2,), -1), ((1, 1), 1)])
        self.assertEqual(by_whole(2, [((2, 0), 1), ((1, 1), 3), ((0, 2), 1)]), [((2,), -1), ((1, 1), 2)])
        self.assertEqual(by_whole(1, [((3,), 4), ((0,), -7)]), [((1, 1, 1), 4), ((), -7)])
        self.assertEqual(by_whole(3, [((1, 1, 1), 1)]), [((3,), 1), ((2, 1), -2), ((1, 1, 1), 1)])

    def test_points_11_and_12_none_and_a_number_alone(self):
        for function, many in itertools.product(TELLINGS.values(), (1, 2, 3, 4)):
            self.assertEqual(function(many, []), [])
            for number in (1, -1, SIXTY, -SIXTY, ENDLESS, -ENDLESS):
                self.assertEqual(function(many, [((0,) * many, number)]), [((), number)])

    def test_points_11_and_12_multiplied_out(self):
        for kind, many in itertools.product(TELLINGS, (1, 2, 3, 4)):
            for some in even_samples(many):
                self.check_telling(kind, many, some)

    def test_points_11_and_12_the_sum_of_a_row_is_told_by_itself(self):
        for kind, many in itertools.product(TELLINGS, (1, 2, 3, 4)):
            for row in rows_within(8):
                if max(row, default=0) <= many:
                    for often in (1, -SIXTY):
                        some = [(powers, often * number) for powers, number in row_sum(kind, many, row)]
                        self.assertEqual(TELLINGS[kind](many, some), [(row, often)])

    def test_points_11_and_12_sums_of_rows_with_a_number_above_n(self):
        for many in (1, 2, 3):
            for row in rows_within(8):
                self.check_telling("whole", many, row_sum("whole", many, row))
                self.check_telling("elementary", many, row_sum("whole", many, row))

    def test_points_11_and_12_a_sum_and_a_product_of_two(self):
        for many in (1, 2, 3, 4):
            somes = [even(many, row_numbers(many, weights, seed))
                     for weights in ((4,), (0, 1), (0, 2, 4), range(5)) for seed in (1, 2, 3)] + [[]]
            for one, other in itertools.product(somes, repeat=2):
                for function in TELLINGS.values():
                    left, right = function(many, one), function(many, other)
                    self.assertEqual(function(many, added_up(one, other)), added_up(left, right))
                    self.assertEqual(function(many, multiply(one, other, added_powers)),
                                     multiply(left, right, joined_rows))

    def test_point_3_numbers_of_any_figures(self):
        for kind, many in itertools.product(TELLINGS, (1, 2, 3, 4)):
            numbers = {row: ENDLESS + place for place, row in enumerate(rows_within(many))}
            self.check_telling(kind, many, even(many, numbers))

    def test_point_10_bad_count_ahead_of_uneven(self):
        for function in TELLINGS.values():
            check_uneven_refusals(self, function)

    def test_point_2_what_was_handed_in_and_told(self):
        for function, many in itertools.product(TELLINGS.values(), (1, 2, 3, 4)):
            for some in even_samples(many):
                check_own(self, function, many, some)

    def test_nothing_is_refused_for_a_polynomial_somewhat_beyond_8(self):
        some = [((9, 0), 2), ((5, 5), 3), ((0, 9), 2)]
        for kind, function in TELLINGS.items():
            self.assertEqual(multiplied_out(kind, 2, function(2, some)), some)
