import inspect
import itertools
import unittest

from evenform import exchanges
from evenform.errors import BadCount, BadRow, TooLong
from evenform.exchanges import by_exchange, exchange_sum, uneven
from support import (BAD_COUNTS, BAD_ROWS, ENDLESS, SIXTY, Case, all_powers, altered, check_count_refusals, check_own,
                     check_refused, check_sum_refusals, check_uneven_refusals, due_uneven, even, even_samples, in_order,
                     one_of, row_numbers, rows_within, swapped, uneven_samples)


class Interface(unittest.TestCase):
    def test_names_and_arguments(self):
        told = {"uneven": ["many", "some"], "exchange_sum": ["many", "row"], "by_exchange": ["many", "some"]}
        for name, arguments in told.items():
            self.assertEqual(list(inspect.signature(getattr(exchanges, name)).parameters), arguments)


def orders(many, row):
    return sorted(set(itertools.permutations(row + (0,) * (many - len(row)))), reverse=True)


class UnevenOnes(Case):
    def assert_uneven(self, many, some, place, powers):
        told = uneven(many, some)
        self.assertEqual(told, (place, powers))
        self.assertIsInstance(told, tuple)
        self.assertIsInstance(told[1], tuple)

    def test_point_9_even_ones(self):
        for many in (1, 2, 3, 4):
            self.assertIsNone(uneven(many, []))
            for number in (1, -1, SIXTY, -SIXTY, ENDLESS):
                self.assertIsNone(uneven(many, [((0,) * many, number)]))
            for some in even_samples(many):
                self.assertIsNone(uneven(many, some))
            self.assertIsNone(uneven(many, [(powers, 2) for powers in all_powers(many, 8)]))

    def test_point_9_one_unknown_is_always_even(self):
        for start in range(9):
            self.assertIsNone(uneven(1, [((power,), power + 1) for power in range(8, start - 1, -2)]))

    def test_point_9_where_the_greatest_unlike_powers_stand(self):
        # In the polynomial itself, then in the exchanged one alone.
        self.assert_uneven(2, [((1, 0), 1)], 0, (1, 0))
        self.assert_uneven(2, [((0, 1), 1)], 0, (1, 0))
        self.assert_uneven(2, [((2, 1), 3), ((1, 1), 2)], 0, (2, 1))
        self.assert_uneven(2, [((1, 2), 3), ((1, 1), 2)], 0, (2, 1))
        self.assert_uneven(2, [((2, 0), 5), ((0, 2), 4)], 0, (2, 0))

    def test_point_9_like_numbers_of_greater_powers_are_passed_over(self):
        self.assert_uneven(2, [((3, 0), 1), ((2, 0), 2), ((0, 3), 1), ((0, 2), 1), ((0, 0), 9)], 0, (2, 0))
        self.assert_uneven(2, [((4, 1), 1), ((1, 4), 1), ((1, 1), 2), ((0, 3), 1)], 0, (3, 0))

    def test_point_9_only_a_later_place_shows_it(self):
        self.assert_uneven(3, [((1, 0, 0), 1), ((0, 1, 0), 1)], 1, (0, 1, 0))
        self.assert_uneven(3, [((0, 0, 1), 1)], 1, (0, 1, 0))
        self.assert_uneven(3, [((1, 1, 0), 1)], 1, (1, 1, 0))
        self.assert_uneven(3, [((2, 2, 3), -4)], 1, (2, 3, 2))
        self.assert_uneven(4, [((0, 0, 0, 2), 1)], 2, (0, 0, 2, 0))
        self.assert_uneven(4, [((1, 0, 0, 0), 1), ((0, 1, 0, 0), 1), ((0, 0, 1, 0), 1)], 2, (0, 0, 1, 0))
        self.assert_uneven(4, [((0, 0, 1, 1), 1)], 1, (0, 1, 0, 1))

    def test_point_9_the_least_place_though_a_later_one_has_greater_powers(self):
        # Exchanging 1 and 2 changes the greater powers, exchanging 0 and 1 only lesser ones.
        some = in_order({(3, 3, 1): 1, (1, 0, 0): 1})
        self.assert_uneven(3, some, 0, (1, 0, 0))
        self.assert_uneven(3, in_order({(3, 3, 1): 1, (0, 1, 0): 1}), 0, (1, 0, 0))

    def check_altered(self, many, some, powers, number):
        """A polynomial that differs from an even one at these powers alone."""
        told = uneven(many, altered(some, powers, number))
        places = [place for place in range(many - 1) if powers[place] != powers[place + 1]]
        if places == []:
            self.assertIsNone(told)
        else:
            self.assertEqual(told, (places[0], max(powers, swapped(powers, places[0]))))

    def test_point_9_one_term_unlike_an_even_one(self):
        for many in (1, 2, 3, 4):
            for numbers in ({}, row_numbers(many, (1, 2, 5), 4), row_numbers(many, range(9), 2)):
                some = even(many, numbers)
                for powers in all_powers(many, 8)[:: 1 if many < 4 else 2]:
                    number = dict(some).get(powers, 0)
                    self.check_altered(many, some, powers, number + 1)
                    if number != 0:
                        self.check_altered(many, some, powers, 0)
                        self.check_altered(many, some, powers, -number)

    def test_point_9_against_all_powers(self):
        for many in (2, 3, 4):
            for some in uneven_samples(many):
                self.assertEqual(uneven(many, some), due_uneven(many, some))

    def test_point_3_numbers_of_any_figures(self):
        self.assertIsNone(uneven(2, [((1, 0), ENDLESS), ((0, 1), ENDLESS)]))
        self.assert_uneven(2, [((1, 0), ENDLESS), ((0, 1), ENDLESS + 1)], 0, (1, 0))
        self.assert_uneven(2, [((1, 0), SIXTY), ((0, 1), -SIXTY)], 0, (1, 0))

    def test_point_10_bad_count(self):
        check_count_refusals(self, uneven)

    def test_point_2_what_was_handed_in_and_told(self):
        for many in (1, 2, 3, 4):
            for some in even_samples(many)[::5] + uneven_samples(many)[::5]:
                check_own(self, uneven, many, some)

    def test_point_4_a_refusal_changes_nothing(self):
        some = [((1, 1), 2), ((0, 1), 1)]
        for many in BAD_COUNTS:
            check_refused(self, BadCount, uneven, many, some)
            self.assertEqual(uneven(2, some), (0, (1, 0)))
            self.assertIsNone(uneven(2, [((1, 1), 2)]))


class ExchangeSums(Case):
    def test_point_10_written_out(self):
        self.assertEqual(exchange_sum(2, (2, 1)), [((2, 1), 1), ((1, 2), 1)])
        self.assertEqual(exchange_sum(2, (3, 3)), [((3, 3), 1)])
        self.assertEqual(exchange_sum(3, (1, 1)), [((1, 1, 0), 1), ((1, 0, 1), 1), ((0, 1, 1), 1)])
        self.assertEqual(exchange_sum(1, (8,)), [((8,), 1)])

    def test_point_10_each_row(self):
        for many in (1, 2, 3, 4):
            for row in rows_within(many):
                told = exchange_sum(many, row)
                self.assert_form(many, told)
                self.assertEqual(told, [(powers, 1) for powers in orders(many, row)])

    def test_point_10_empty_row(self):
        for many in (1, 2, 3, 4):
            self.assertEqual(exchange_sum(many, ()), one_of(many))

    def test_point_10_too_long(self):
        for many in (1, 2, 3, 4):
            for row in [row for row in rows_within(8) if len(row) > many]:
                check_refused(self, TooLong, exchange_sum, many, row)

    def test_points_7_and_10_bad_row_ahead_of_bad_count_ahead_of_too_long(self):
        check_sum_refusals(self, exchange_sum)
        for many in BAD_COUNTS:
            check_refused(self, BadRow, exchange_sum, many, (1, 1, 1, 1, 1, 2))
            check_refused(self, BadCount, exchange_sum, many, (1, 1, 1, 1, 1, 1))
        for many in (1, 2, 3, 4):
            check_refused(self, BadRow, exchange_sum, many, (2, 2, 1, 1, 1, 2))

    def test_point_2_what_was_handed_in_and_told(self):
        for many in (1, 2, 3, 4):
            for row in rows_within(many):
                check_own(self, exchange_sum, many, row)

    def test_point_4_a_refusal_changes_nothing(self):
        for bad, many in itertools.product(BAD_ROWS + [(1, 1, 1)], [2] + BAD_COUNTS):
            with self.assertRaises(ValueError):
                exchange_sum(many, bad)
            self.assertEqual(exchange_sum(2, (1,)), [((1, 0), 1), ((0, 1), 1)])


class ByExchange(Case):
    def test_point_10_written_out(self):
        self.assertEqual(by_exchange(2, [((2, 0), 1), ((1, 1), 3), ((0, 2), 1)]), [((2,), 1), ((1, 1), 3)])
        self.assertEqual(by_exchange(3, [((1, 1, 1), -5), ((0, 0, 0), 4)]), [((1, 1, 1), -5), ((), 4)])

    def test_point_10_none_and_a_number_alone(self):
        for many in (1, 2, 3, 4):
            self.assertEqual(by_exchange(many, []), [])
            for number in (1, -1, SIXTY, -SIXTY, ENDLESS, -ENDLESS):
                self.assertEqual(by_exchange(many, [((0,) * many, number)]), [((), number)])

    def test_point_10_each_exchange_sum(self):
        for many in (1, 2, 3, 4):
            for row in rows_within(many):
                self.assertEqual(by_exchange(many, exchange_sum(many, row)), [(row, 1)])
                for number in (SIXTY, -SIXTY, ENDLESS):
                    some = [(powers, number) for powers in orders(many, row)]
                    self.assertEqual(by_exchange(many, some), [(row, number)])

    def test_point_10_sums_of_exchange_sums(self):
        for many in (1, 2, 3, 4):
            for weights in [(weight,) for weight in range(9)] + [range(9), (0, 8), (1, 2, 3)]:
                for seed in range(1, 6):
                    numbers = row_numbers(many, weights, seed)
                    told = by_exchange(many, even(many, numbers))
                    self.assert_telling(told)
                    self.assertEqual(told, in_order(numbers))

    def test_point_10_greater_rows_first(self):
        for many in (1, 2, 3, 4):
            told = by_exchange(many, [(powers, 1) for powers in all_powers(many, 8)])
            self.assertEqual([row for row, _ in told], sorted(rows_within(many), reverse=True))
        told = [row for row, _ in by_exchange(2, [(powers, 1) for powers in all_powers(2, 3)])]
        self.assertEqual(told, [(3,), (2, 1), (2,), (1, 1), (1,), ()])

    def test_point_10_bad_count_ahead_of_uneven(self):
        check_uneven_refusals(self, by_exchange)

    def test_point_2_what_was_handed_in_and_told(self):
        for many in (1, 2, 3, 4):
            for some in even_samples(many):
                check_own(self, by_exchange, many, some)
