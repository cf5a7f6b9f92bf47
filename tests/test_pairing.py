import inspect
import itertools
import unittest

from evenform import pairing
from evenform.errors import BadCount, BadRow
from evenform.fillings import by_fillings
from evenform.pairing import flipped, pair
from support import (BAD_COUNTS, BAD_ROWS, ENDLESS, SIXTY, Case, all_rows, check_own, check_refused, check_uneven,
                     due_uneven, even, even_samples, in_order, multiplied_out, row_numbers, row_sum, rows_within,
                     turned_row, uneven_samples)

THIRTY = int("7" * 30)


class Interface(unittest.TestCase):
    def test_names_and_arguments(self):
        for name, arguments in {"pair": ["many", "one", "other"], "flipped": ["telling"]}.items():
            self.assertEqual(list(inspect.signature(getattr(pairing, name)).parameters), arguments)


def taken(often, some):
    return [(powers, often * number) for powers, number in some]


def with_thirty(numbers):
    """The same rows, with numbers of thirty figures above and below nought."""
    return {row: (1 - 2 * (place % 2)) * (THIRTY - place) for place, row in enumerate(numbers)}


class Pair(Case):
    def assert_pair(self, many, one, other, due):
        told = pair(many, one, other)
        self.assertIs(type(told), int)
        self.assertEqual(told, due)

    def test_point_16_written_out(self):
        # x + y with itself, and x x + y y, which is x x + x y + y y less x y, with itself and with x y.
        self.assert_pair(2, [((1, 0), 1), ((0, 1), 1)], [((1, 0), 1), ((0, 1), 1)], 1)
        self.assert_pair(2, [((2, 0), 1), ((0, 2), 1)], [((2, 0), 1), ((0, 2), 1)], 2)
        self.assert_pair(2, [((2, 0), 1), ((0, 2), 1)], [((1, 1), 3)], -3)
        self.assert_pair(1, [((2,), 5), ((0,), 7)], [((3,), 4), ((2,), 3), ((0,), -1)], 8)
        self.assert_pair(2, [((1, 0), 1), ((0, 1), 1)], [((0, 0), 1)], 0)

    def test_point_16_two_filled_sums(self):
        for many in (1, 2, 3, 4):
            rows = rows_within(many)
            for one, other in itertools.product(rows, rows[::2] if many == 4 else rows):
                left, right = row_sum("filling", many, one), row_sum("filling", many, other)
                self.assert_pair(many, left, right, int(one == other))

    def test_point_16_a_whole_sum_and_an_exchange_sum(self):
        for many in (1, 2, 3, 4):
            rows = rows_within(many)
            for one, other in itertools.product(rows, rows[::3] if many == 4 else rows):
                if many < 4 or sum(one) == sum(other) or sum(one) < 3:
                    whole, exchange = row_sum("whole", many, one), even(many, {other: 1})
                    self.assert_pair(many, whole, exchange, int(one == other))
                    self.assert_pair(many, exchange, whole, int(one == other))

    def test_point_16_each_row_and_itself(self):
        for row in rows_within(4):
            self.assert_pair(4, row_sum("filling", 4, row), row_sum("filling", 4, row), 1)
            self.assert_pair(4, row_sum("whole", 4, row), even(4, {row: 1}), 1)
            self.assert_pair(4, even(4, {row: 1}), row_sum("whole", 4, row), 1)

    def test_point_16_sums_of_filled_sums(self):
        for many in (1, 2, 3, 4):
            tellings = [row_numbers(many, weights, seed)
                        for weights in (range(9), (0, 3, 4), (8,)) for seed in (1, 2)] + [{}]
            tellings += [with_thirty(telling) for telling in tellings]
            for one, other in itertools.product(tellings, repeat=2):
                left, right = (multiplied_out("filling", many, in_order(numbers)) for numbers in (one, other))
                self.assert_pair(many, left, right, sum(one[row] * other.get(row, 0) for row in one))

    def test_point_16_numbers_of_thirty_figures(self):
        for many in (1, 2, 3, 4):
            for row in rows_within(many)[::4]:
                some = row_sum("filling", many, row)
                self.assert_pair(many, taken(THIRTY, some), taken(-THIRTY - 1, some), -THIRTY * (THIRTY + 1))
                self.assert_pair(many, taken(THIRTY, row_sum("whole", many, row)), even(many, {row: -THIRTY}),
                                 -THIRTY * THIRTY)

    def test_point_16_nought(self):
        for many in (1, 2, 3, 4):
            self.assert_pair(many, [], [], 0)
            for some in even_samples(many)[::3]:
                self.assert_pair(many, some, [], 0)
                self.assert_pair(many, [], some, 0)

    def test_point_3_numbers_of_any_figures(self):
        for many in (1, 2, 3, 4):
            some = row_sum("filling", many, (3,))
            self.assert_pair(many, taken(ENDLESS, some), taken(-ENDLESS, some), -ENDLESS * ENDLESS)
            self.assert_pair(many, taken(SIXTY, some), [((0,) * many, ENDLESS)], 0)

    def test_point_10_uneven_the_first_ahead_of_the_second(self):
        for many in (2, 3, 4):
            evens = [[], [((0,) * many, 3)], even(many, {(2, 1): 5}), even(many, row_numbers(many, range(9), 2))]
            samples = uneven_samples(many)
            for number, some in enumerate(samples):
                due, good = due_uneven(many, some), evens[number % len(evens)]
                check_uneven(self, due, pair, many, some, good)
                check_uneven(self, due, pair, many, good, some)
                other = samples[(7 * number + 3) % len(samples)]
                check_uneven(self, due, pair, many, some, other)
                check_uneven(self, due_uneven(many, other), pair, many, other, some)

    def test_point_10_bad_count_ahead_of_uneven(self):
        for bad in BAD_COUNTS:
            check_refused(self, BadCount, pair, bad, [], [])
            for many in (1, 2, 3, 4):
                somes = even_samples(many)[::15] + uneven_samples(many)[::25]
                for one, other in itertools.product(somes, repeat=2):
                    check_refused(self, BadCount, pair, bad, one, other)

    def test_point_4_a_refusal_changes_nothing(self):
        one, other = even(3, row_numbers(3, range(9), 2)), even(3, row_numbers(3, range(9), 3))
        before = pair(3, one, other)
        for many, left, right in ((0, one, other), (3, one, [((1, 0, 0), 1)]), (3, [((0, 0, 1), 1)], other)):
            with self.assertRaises(ValueError):
                pair(many, left, right)
            self.assertEqual(pair(3, one, other), before)

    def test_point_2_what_was_handed_in_and_told(self):
        for many in (1, 2, 3, 4):
            samples = even_samples(many)
            for one, other in zip(samples, samples[3:] + samples[:3]):
                check_own(self, pair, many, list(one), list(other))


class Flipped(Case):
    def check_flipped(self, telling):
        told = flipped(telling)
        self.assert_telling(told)
        self.assertEqual(told, in_order({turned_row(row): number for row, number in telling}))
        self.assertEqual(flipped(told), telling)

    def test_point_16_written_out(self):
        self.assertEqual(flipped([((3,), 2), ((2, 2), -5), ((1,), 7), ((), 1)]),
                         [((2, 2), -5), ((1, 1, 1), 2), ((1,), 7), ((), 1)])
        self.assertEqual(flipped([((5, 2, 1), 4)]), [((3, 2, 1, 1, 1), 4)])
        self.assertEqual(flipped([((1,) * 8, SIXTY)]), [((8,), SIXTY)])
        self.assertEqual(flipped([]), [])
        self.assertEqual(flipped([((), -SIXTY)]), [((), -SIXTY)])

    def test_point_16_each_row(self):
        for row in rows_within(8):
            for number in (1, -1, SIXTY, -SIXTY, ENDLESS):
                self.check_flipped([(row, number)])

    def test_point_16_greater_rows_first_and_flipped_again(self):
        for many in (1, 3, 4, 5, 8):
            for weights in [(weight,) for weight in range(9)] + [range(9), (0, 8), (1, 2, 3)]:
                for seed in (1, 2, 3):
                    self.check_flipped(in_order(row_numbers(many, weights, seed)))
        self.check_flipped([(row, 1) for row in sorted(rows_within(8), reverse=True)])

    def test_point_16_elementary_sums_are_flipped_into_whole_sums(self):
        for many in (1, 2, 3, 4):
            for row in [row for weight in range(many + 1) for row in all_rows(weight)]:
                elementary, whole = (by_fillings(many, row_sum(kind, many, row)) for kind in ("elementary", "whole"))
                self.assertEqual(flipped(elementary), whole)
                self.assertEqual(flipped(whole), elementary)

    def test_point_7_bad_row(self):
        for bad in BAD_ROWS:
            for ahead, behind in (([], []), ([((8,), 1)], [((), 2)]), ([], [((1, 1), 3)]), ([((2,), 3)], [])):
                check_refused(self, BadRow, flipped, ahead + [(bad, SIXTY)] + behind)
            self.assertEqual(flipped([((2,), 3), ((1,), 1)]), [((1, 1), 3), ((1,), 1)])

    def test_point_2_what_was_handed_in_and_told(self):
        for seed in range(1, 9):
            check_own(self, flipped, in_order(row_numbers(8, range(9), seed)))
        check_own(self, flipped, [])
        check_own(self, flipped, [((), 1)])
