import inspect
import itertools
import unittest

from evenform import fillings as module
from evenform.fillings import by_fillings, filled_sum, fillings
from support import (ENDLESS, SIXTY, Case, added_up, all_fillings, all_rows, check_own, check_sum_refusals,
                     check_uneven_refusals, due_uneven, even, even_samples, in_order, multiplied_out, one_of,
                     row_numbers, row_sum, rows_within, sum_of_fillings)

LESS = [row for weight in range(7) for row in all_rows(weight)]
ROWS = LESS + all_rows(8)


class Interface(unittest.TestCase):
    def test_names_and_arguments(self):
        told = {"fillings": ["many", "row"], "filled_sum": ["many", "row"], "by_fillings": ["many", "some"]}
        for name, arguments in told.items():
            self.assertEqual(list(inspect.signature(getattr(module, name)).parameters), arguments)


def in_lines(row, numbers):
    """Numbers one behind the other, cut into lines as long as a row tells."""
    starts = [sum(row[:line]) for line in range(len(row))]
    return tuple(tuple(numbers[start:start + length]) for start, length in zip(starts, row))


def is_filled(lines):
    """Point 14's words: along a line numbers never fall, down from a box to the one beneath it they rise."""
    along = [pair for line in lines for pair in zip(line, line[1:])]
    down = [pair for line, after in zip(lines, lines[1:]) for pair in zip(line, after)]
    return all(number <= later for number, later in along) and all(number < beneath for number, beneath in down)


def tried(many, row):
    """All fillings, found among all ways to put numbers into the boxes."""
    found = [in_lines(row, numbers) for numbers in itertools.product(range(many), repeat=sum(row))]
    return [lines for lines in found if is_filled(lines)]


def how_many(many, row):
    """How many fillings there are: the product over boxes of n and how far right less how far down, by the hooks."""
    top, bottom = 1, 1
    for line, length in enumerate(row):
        for place in range(length):
            beneath = len([number for number in row[line + 1:] if number > place])
            top *= many + place - line
            bottom *= length - place + beneath
    return top // bottom


class Fillings(Case):
    def assert_fillings(self, many, row, told):
        self.assertIsInstance(told, list)
        for filling in told:
            self.assertIsInstance(filling, tuple)
            self.assertEqual(tuple(len(line) for line in filling), row)
            for line in filling:
                self.assertIsInstance(line, tuple)
                self.assertTrue(all(type(number) is int and 0 <= number < many for number in line))
            self.assertTrue(is_filled(filling))
        for filling, later in zip(told, told[1:]):
            self.assertLess(filling, later)

    def test_point_14_written_out(self):
        self.assertEqual(fillings(2, (2, 1)), [((0, 0), (1,)), ((0, 1), (1,))])
        self.assertEqual(fillings(3, (1, 1)), [((0,), (1,)), ((0,), (2,)), ((1,), (2,))])
        self.assertEqual(fillings(2, (2,)), [((0, 0),), ((0, 1),), ((1, 1),)])
        self.assertEqual(fillings(1, (8,)), [((0,) * 8,)])
        self.assertEqual(fillings(4, (2, 2, 2, 2)), [((0, 0), (1, 1), (2, 2), (3, 3))])
        self.assertEqual(fillings(3, (2, 1)),
                         [((0, 0), (1,)), ((0, 0), (2,)), ((0, 1), (1,)), ((0, 1), (2,)), ((0, 2), (1,)),
                          ((0, 2), (2,)), ((1, 1), (2,)), ((1, 2), (2,))])

    def test_point_14_each_row(self):
        for many in (1, 2, 3, 4):
            for row in rows_within(8):
                with self.subTest(many=many, row=row):
                    told = fillings(many, row)
                    self.assert_fillings(many, row, told)
                    self.assertEqual(len(told), how_many(many, row))
                    self.assertEqual(told, all_fillings(many, row))

    def test_point_14_against_all_ways_to_fill_boxes(self):
        for many in (1, 2, 3, 4):
            for row in LESS + (all_rows(8) if many < 3 else []):
                self.assertEqual(fillings(many, row), tried(many, row))
        for many, row in ((3, (5, 2, 1)), (3, (3, 3, 2)), (4, (4, 2, 1, 1))):
            self.assertEqual(fillings(many, row), tried(many, row))

    def test_point_14_more_numbers_than_n(self):
        for many in (1, 2, 3, 4):
            for row in rows_within(8):
                self.assertEqual(fillings(many, row) == [], len(row) > many)
                self.assertEqual(filled_sum(many, row) == [], len(row) > many)

    def test_point_14_empty_row(self):
        for many in (1, 2, 3, 4):
            self.assertEqual(fillings(many, ()), [()])
            self.assertEqual(filled_sum(many, ()), one_of(many))

    def test_points_7_and_10_bad_row_ahead_of_bad_count(self):
        check_sum_refusals(self, fillings)

    def test_point_2_what_was_handed_in_and_told(self):
        for many in (1, 2, 3, 4):
            for row in rows_within(8):
                check_own(self, fillings, many, row)


class Sums(Case):
    def test_point_14_written_out(self):
        self.assertEqual(filled_sum(2, (2, 1)), [((2, 1), 1), ((1, 2), 1)])
        self.assertEqual(filled_sum(3, (2, 1)),
                         [((2, 1, 0), 1), ((2, 0, 1), 1), ((1, 2, 0), 1), ((1, 1, 1), 2), ((1, 0, 2), 1),
                          ((0, 2, 1), 1), ((0, 1, 2), 1)])
        self.assertEqual(filled_sum(1, (8,)), [((8,), 1)])

    def test_point_14_each_row(self):
        for many in (1, 2, 3, 4):
            for row in ROWS:
                with self.subTest(many=many, row=row):
                    told = filled_sum(many, row)
                    self.assert_form(many, told)
                    self.assertEqual(told, sum_of_fillings(many, fillings(many, row)))
                    self.assertEqual(told, row_sum("filling", many, row))
                    self.assertIsNone(due_uneven(many, told))

    def test_point_14_rows_of_one_line_and_of_one_place(self):
        for many, size in itertools.product((1, 2, 3, 4), range(1, 9)):
            self.assertEqual(filled_sum(many, (size,)), row_sum("whole", many, (size,)))
            self.assertEqual(filled_sum(many, (1,) * size), row_sum("elementary", many, (size,)))

    def test_points_7_and_10_bad_row_ahead_of_bad_count(self):
        check_sum_refusals(self, filled_sum)

    def test_point_2_what_was_handed_in_and_told(self):
        for many in (1, 2, 3, 4):
            for row in rows_within(8):
                check_own(self, filled_sum, many, row)


class ByFillings(Case):
    def check_telling(self, many, some):
        told = by_fillings(many, some)
        self.assert_telling(told)
        for row, _ in told:
            self.assertLessEqual(len(row), many)
        self.assertEqual(multiplied_out("filling", many, told), some)

    def test_point_14_written_out(self):
        # x x + y y + 3 x y is x x + x y + y y and twice x y.
        self.assertEqual(by_fillings(2, [((2, 0), 1), ((1, 1), 3), ((0, 2), 1)]), [((2,), 1), ((1, 1), 2)])
        self.assertEqual(by_fillings(2, [((3, 0), 1), ((0, 3), 1)]), [((3,), 1), ((2, 1), -1)])
        self.assertEqual(by_fillings(3, [((2, 0, 0), 1), ((0, 2, 0), 1), ((0, 0, 2), 1)]), [((2,), 1), ((1, 1), -1)])
        self.assertEqual(by_fillings(1, [((3,), 4), ((0,), -7)]), [((3,), 4), ((), -7)])
        self.assertEqual(by_fillings(4, [((2, 2, 2, 2), -5)]), [((2, 2, 2, 2), -5)])

    def test_point_14_none_and_a_number_alone(self):
        for many in (1, 2, 3, 4):
            self.assertEqual(by_fillings(many, []), [])
            for number in (1, -1, SIXTY, -SIXTY, ENDLESS, -ENDLESS):
                self.assertEqual(by_fillings(many, [((0,) * many, number)]), [((), number)])

    def test_point_14_added_up(self):
        for many in (1, 2, 3, 4):
            for some in even_samples(many):
                self.check_telling(many, some)

    def test_point_14_the_sum_of_a_row_is_told_by_itself(self):
        for many in (1, 2, 3, 4):
            for row in rows_within(many):
                self.assertEqual(by_fillings(many, filled_sum(many, row)), [(row, 1)])
                some = [(powers, -SIXTY * number) for powers, number in row_sum("filling", many, row)]
                self.assertEqual(by_fillings(many, some), [(row, -SIXTY)])

    def test_point_14_sums_of_filled_sums(self):
        for many in (1, 2, 3, 4):
            for weights in [(weight,) for weight in range(9)] + [range(9), (0, 8), (1, 2, 3)]:
                for seed in (1, 2, 3):
                    telling = in_order(row_numbers(many, weights, seed))
                    self.assertEqual(by_fillings(many, multiplied_out("filling", many, telling)), telling)

    def test_point_14_a_sum_of_two(self):
        for many in (1, 2, 3, 4):
            somes = [even(many, row_numbers(many, weights, seed)) for weights in ((4,), (0, 1, 8)) for seed in (1, 2)]
            for one, other in itertools.product(somes, repeat=2):
                self.assertEqual(by_fillings(many, added_up(one, other)),
                                 added_up(by_fillings(many, one), by_fillings(many, other)))

    def test_point_3_numbers_of_any_figures(self):
        for many in (1, 2, 3, 4):
            numbers = {row: ENDLESS + place for place, row in enumerate(rows_within(many))}
            self.check_telling(many, even(many, numbers))

    def test_point_10_bad_count_ahead_of_uneven(self):
        check_uneven_refusals(self, by_fillings)

    def test_point_2_what_was_handed_in_and_told(self):
        for many in (1, 2, 3, 4):
            for some in even_samples(many):
                check_own(self, by_fillings, many, some)

    def test_nothing_is_refused_for_a_polynomial_somewhat_beyond_8(self):
        some = [((9, 0), 2), ((5, 5), 3), ((0, 9), 2)]
        self.assertEqual(multiplied_out("filling", 2, by_fillings(2, some)), some)


class Counts(unittest.TestCase):
    def test_the_tests_own_count(self):
        self.assertEqual([how_many(4, row) for row in all_rows(4)], [35, 45, 20, 15, 1])
