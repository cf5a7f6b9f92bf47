import inspect
import itertools
import unittest

from evenform import powers as module
from evenform.powers import by_power, power_sum
from support import (ENDLESS, SIXTY, Case, added_powers, added_up, check_own, check_sum_refusals, check_uneven_refusals,
                     even, even_samples, joined_rows, multiplied_out, multiply, one_of, row_numbers, row_sum,
                     rows_within, with_fractions)


class Interface(unittest.TestCase):
    def test_names_and_arguments(self):
        for name, arguments in {"power_sum": ["many", "row"], "by_power": ["many", "some"]}.items():
            self.assertEqual(list(inspect.signature(getattr(module, name)).parameters), arguments)


class Sums(Case):
    def test_point_13_written_out(self):
        self.assertEqual(power_sum(2, (3,)), [((3, 0), 1), ((0, 3), 1)])
        self.assertEqual(power_sum(2, (1, 1)), [((2, 0), 1), ((1, 1), 2), ((0, 2), 1)])
        self.assertEqual(power_sum(2, (2, 1)), [((3, 0), 1), ((2, 1), 1), ((1, 2), 1), ((0, 3), 1)])
        self.assertEqual(power_sum(3, (8,)), [((8, 0, 0), 1), ((0, 8, 0), 1), ((0, 0, 8), 1)])
        self.assertEqual(power_sum(1, (5, 3)), [((8,), 1)])

    def test_point_13_each_row(self):
        for many in (1, 2, 3, 4):
            for row in rows_within(8):
                with self.subTest(many=many, row=row):
                    told = power_sum(many, row)
                    self.assert_form(many, told)
                    self.assertEqual(told, row_sum("power", many, row))

    def test_point_13_empty_row(self):
        for many in (1, 2, 3, 4):
            self.assertEqual(power_sum(many, ()), one_of(many))

    def test_points_7_and_10_bad_row_ahead_of_bad_count(self):
        check_sum_refusals(self, power_sum)

    def test_point_2_what_was_handed_in_and_told(self):
        for many in (1, 2, 3, 4):
            for row in rows_within(8):
                check_own(self, power_sum, many, row)


class ByPower(Case):
    def check_telling(self, many, some):
        told = by_power(many, some)
        self.assert_rows_fall(told)
        self.assert_no_number_above(many, told)
        self.assert_fractions(told)
        self.assertEqual(multiplied_out("power", many, with_fractions(told)), some)

    def test_point_13_written_out(self):
        self.assertEqual(by_power(2, [((1, 1), 1)]), [((2,), (-1, 2)), ((1, 1), (1, 2))])
        self.assertEqual(by_power(2, [((1, 1), 2)]), [((2,), (-1, 1)), ((1, 1), (1, 1))])
        self.assertEqual(by_power(2, [((3, 0), 1), ((0, 3), 1)]), [((2, 1), (3, 2)), ((1, 1, 1), (-1, 2))])
        self.assertEqual(by_power(3, [((1, 1, 1), 1)]), [((3,), (1, 3)), ((2, 1), (-1, 2)), ((1, 1, 1), (1, 6))])
        self.assertEqual(by_power(1, [((3,), 4), ((0,), -7)]), [((1, 1, 1), (4, 1)), ((), (-7, 1))])

    def test_point_13_none_and_a_number_alone(self):
        for many in (1, 2, 3, 4):
            self.assertEqual(by_power(many, []), [])
            for number in (1, -1, SIXTY, -SIXTY, ENDLESS, -ENDLESS):
                self.assertEqual(by_power(many, [((0,) * many, number)]), [((), (number, 1))])

    def test_point_13_multiplied_out(self):
        for many in (1, 2, 3, 4):
            for some in even_samples(many):
                self.check_telling(many, some)

    def test_point_13_the_sum_of_a_row_is_told_by_itself(self):
        for many in (1, 2, 3, 4):
            for row in rows_within(8):
                if max(row, default=0) <= many:
                    for often in (1, -SIXTY):
                        some = [(powers, often * number) for powers, number in row_sum("power", many, row)]
                        self.assertEqual(by_power(many, some), [(row, (often, 1))])

    def test_point_13_sums_of_rows_with_a_number_above_n(self):
        for many in (1, 2, 3):
            for row in rows_within(8):
                self.check_telling(many, row_sum("power", many, row))

    def test_point_13_a_sum_and_a_product_of_two(self):
        for many in (1, 2, 3, 4):
            somes = [even(many, row_numbers(many, weights, seed))
                     for weights in ((4,), (0, 1), (0, 2, 4), range(5)) for seed in (1, 2)] + [[]]
            for one, other in itertools.product(somes, repeat=2):
                left, right = with_fractions(by_power(many, one)), with_fractions(by_power(many, other))
                self.assertEqual(with_fractions(by_power(many, added_up(one, other))), added_up(left, right))
                self.assertEqual(with_fractions(by_power(many, multiply(one, other, added_powers))),
                                 multiply(left, right, joined_rows))

    def test_point_3_numbers_of_any_figures(self):
        for many in (1, 2, 3, 4):
            numbers = {row: ENDLESS + place for place, row in enumerate(rows_within(many))}
            self.check_telling(many, even(many, numbers))

    def test_point_10_bad_count_ahead_of_uneven(self):
        check_uneven_refusals(self, by_power)

    def test_point_2_what_was_handed_in_and_told(self):
        for many in (1, 2, 3, 4):
            for some in even_samples(many):
                check_own(self, by_power, many, some)

    def test_nothing_is_refused_for_a_polynomial_somewhat_beyond_8(self):
        some = [((9, 0), 2), ((5, 5), 3), ((0, 9), 2)]
        self.assertEqual(multiplied_out("power", 2, with_fractions(by_power(2, some))), some)
