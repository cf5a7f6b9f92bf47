import functools
import inspect
import itertools
import unittest

from evenform import merging
from evenform.errors import BadCount, BadRow, TooGreat
from evenform.merging import counted, merged
from support import (BAD_COUNTS, BAD_ROWS, Case, added_powers, all_rows, check_own, check_refused, multiplied_out,
                     multiply, row_of, row_sum, rows_within, turned_row)

ROWS = rows_within(8)
PAIRS = [(one, other) for one, other in itertools.product(ROWS, repeat=2) if sum(one) + sum(other) <= 8]
TOO_GREAT = [(one, other) for one, other in itertools.product(ROWS, repeat=2) if sum(one) + sum(other) > 8]


class Interface(unittest.TestCase):
    def test_names_and_arguments(self):
        for name, arguments in {"merged": ["many", "one", "other"], "counted": ["one", "other", "third"]}.items():
            self.assertEqual(list(inspect.signature(getattr(merging, name)).parameters), arguments)


class Merged(Case):
    def test_point_15_written_out(self):
        self.assertEqual(merged(2, (1,), (1,)), [((2,), 1), ((1, 1), 1)])
        self.assertEqual(merged(1, (1,), (1,)), [((2,), 1)])
        self.assertEqual(merged(3, (2, 1), (2, 1)),
                         [((4, 2), 1), ((4, 1, 1), 1), ((3, 3), 1), ((3, 2, 1), 2), ((2, 2, 2), 1)])
        self.assertEqual(merged(4, (2, 1), (2, 1)),
                         [((4, 2), 1), ((4, 1, 1), 1), ((3, 3), 1), ((3, 2, 1), 2), ((3, 1, 1, 1), 1), ((2, 2, 2), 1),
                          ((2, 2, 1, 1), 1)])
        self.assertEqual(merged(4, (2, 2), (1, 1)), [((3, 3), 1), ((3, 2, 1), 1), ((2, 2, 1, 1), 1)])
        self.assertEqual(merged(2, (4, 4), ()), [((4, 4), 1)])

    def test_point_15_each_product(self):
        for many in (1, 2, 3, 4):
            for one, other in PAIRS:
                with self.subTest(many=many, one=one, other=other):
                    told = merged(many, one, other)
                    self.assert_telling(told)
                    self.assertTrue(all(len(row) <= many for row, _ in told))
                    due = multiply(row_sum("filling", many, one), row_sum("filling", many, other), added_powers)
                    self.assertEqual(multiplied_out("filling", many, told), due)

    def test_point_15_either_way_about(self):
        for many in (1, 2, 3, 4):
            for one, other in PAIRS:
                self.assertEqual(merged(many, one, other), merged(many, other, one))

    def test_point_15_more_numbers_than_n(self):
        for many in (1, 2, 3, 4):
            for one, other in PAIRS:
                self.assertEqual(merged(many, one, other) == [], len(one) > many or len(other) > many)

    def test_point_15_the_empty_row(self):
        for many in (1, 2, 3, 4):
            for row in rows_within(many):
                self.assertEqual(merged(many, row, ()), [(row, 1)])
                self.assertEqual(merged(many, (), row), [(row, 1)])

    def test_point_15_too_great(self):
        self.assertIn(((8,), (1,)), TOO_GREAT)
        self.assertIn(((1,) * 8, (1,)), TOO_GREAT)
        for many in (1, 2, 3, 4):
            for one, other in TOO_GREAT:
                check_refused(self, TooGreat, merged, many, one, other)

    def test_points_10_and_15_bad_count_ahead_of_too_great(self):
        for many in BAD_COUNTS:
            for one, other in PAIRS[::3] + TOO_GREAT[::29]:
                check_refused(self, BadCount, merged, many, one, other)

    def test_point_7_bad_row_ahead_of_all(self):
        for many in [1, 2, 3, 4] + BAD_COUNTS:
            for bad in BAD_ROWS:
                for row in ((), (1,), (2, 1), (1,) * 5, (8,), (1,) * 8):
                    check_refused(self, BadRow, merged, many, bad, row)
                    check_refused(self, BadRow, merged, many, row, bad)
                check_refused(self, BadRow, merged, many, bad, bad)

    def test_point_4_a_refusal_changes_nothing(self):
        asked = [(2, (2, 1), (1,)), (4, (2, 1), (2, 1)), (1, (1, 1), (1,)), (3, (), ())]
        before = [merged(*handed) for handed in asked]
        for many, one, other in ((2, (0,), (1,)), (0, (1,), (1,)), (2, (8,), (1,)), (1, (1,) * 8, (1,))):
            with self.assertRaises(ValueError):
                merged(many, one, other)
            self.assertEqual([merged(*handed) for handed in asked], before)

    def test_point_2_what_was_handed_in_and_told(self):
        for many in (1, 2, 3, 4):
            for one, other in PAIRS[::3]:
                check_own(self, merged, many, one, other)


def start_of(one, line):
    return one[line] if line < len(one) else 0


def in_boxes(one, lines):
    """The number of each box, by its line and place."""
    return {(line, start_of(one, line) + place): number
            for line, numbers in enumerate(lines) for place, number in enumerate(numbers)}


def stays_behind(numbers):
    """At each stretch from the beginning no number above 0 has come oftener than the number less by one."""
    stretches = [numbers[:size] for size in range(1, len(numbers) + 1)]
    return all(stretch.count(number) <= stretch.count(number - 1)
               for stretch in stretches for number in stretch if number > 0)


def is_counting(one, other, lines):
    """Point 15's words, for lines of the right lengths."""
    boxes = in_boxes(one, lines)
    numbers = [number for line in lines for number in reversed(line)]
    return (all(boxes[box] <= boxes.get((box[0], box[1] + 1), boxes[box]) for box in boxes)
            and all(boxes[box] < boxes.get((box[0] + 1, box[1]), boxes[box] + 1) for box in boxes)
            and sorted(numbers) == [place for place, number in enumerate(other) for again in range(number)]
            and stays_behind(numbers))


def fits(one, other, third):
    return (sum(one) + sum(other) == sum(third) and len(one) <= len(third)
            and all(start_of(one, line) <= number for line, number in enumerate(third)))


def lengths_of(one, third):
    return tuple(number - start_of(one, line) for line, number in enumerate(third))


def tried(one, other, third):
    """All that point 15 tells of, found among all orders of the numbers that are to stand there."""
    lengths = lengths_of(one, third)
    cuts = [(sum(lengths[:line]), sum(lengths[:line + 1])) for line in range(len(lengths))]
    numbers = [place for place, number in enumerate(other) for again in range(number)]
    found = {tuple(order[start:end] for start, end in cuts) for order in set(itertools.permutations(numbers))}
    return sorted(lines for lines in found if is_counting(one, other, lines))


@functools.cache
def parts(many, one, other):
    """How often each filled sum is in a product, worked out by taking off what has the greatest powers."""
    left = dict(multiply(row_sum("filling", many, one), row_sum("filling", many, other), added_powers))
    found = {}
    while any(left.values()):
        greatest = max(powers for powers in left if left[powers] != 0)
        row = row_of(greatest)
        found[row] = left[greatest]
        for powers, number in row_sum("filling", many, row):
            left[powers] -= found[row] * number
    return found


def due_count(one, other, third):
    """How often the third is in the product of the two; for many lines all three are turned, which changes no count."""
    if len(third) > 4:
        return due_count(turned_row(one), turned_row(other), turned_row(third))
    return parts(4, one, other).get(third, 0)


def thirds(one, other):
    return all_rows(sum(one) + sum(other))


class Counted(Case):
    def assert_counted(self, one, other, third, told):
        self.assertIsInstance(told, list)
        for lines in told:
            self.assertIsInstance(lines, tuple)
            self.assertEqual(tuple(len(line) for line in lines), lengths_of(one, third))
            for line in lines:
                self.assertIsInstance(line, tuple)
                self.assertTrue(all(type(number) is int and number >= 0 for number in line))
            self.assertTrue(is_counting(one, other, lines))
        for lines, later in zip(told, told[1:]):
            self.assertLess(lines, later)

    def test_point_15_written_out(self):
        self.assertEqual(counted((2, 1), (2, 1), (3, 2, 1)), [((0,), (0,), (1,)), ((0,), (1,), (0,))])
        self.assertEqual(counted((2, 1), (2, 1), (4, 2)), [((0, 0), (1,))])
        self.assertEqual(counted((2, 1), (2, 1), (3, 3)), [((0,), (0, 1))])
        self.assertEqual(counted((2, 1), (2, 1), (4, 1, 1)), [((0, 0), (), (1,))])
        self.assertEqual(counted((2, 1), (2, 1), (2, 2, 2)), [((), (0,), (0, 1))])
        self.assertEqual(counted((), (2, 1), (2, 1)), [((0, 0), (1,))])
        self.assertEqual(counted((2, 1), (), (2, 1)), [((), ())])
        self.assertEqual(counted((), (), ()), [()])
        self.assertEqual(counted((1,), (1, 1), (3,)), [])
        self.assertEqual(counted((4,), (1,) * 4, (5, 1, 1, 1)), [((0,), (1,), (2,), (3,))])
        self.assertEqual(counted((1,), (2,), (2, 1)), [((0,), (0,))])
        self.assertEqual(counted((), (2,), (1, 1)), [])

    def test_point_15_each_one_as_told_and_as_many_as_there_are(self):
        for one, other in PAIRS:
            for third in thirds(one, other):
                with self.subTest(one=one, other=other, third=third):
                    told = counted(one, other, third)
                    self.assert_counted(one, other, third, told)
                    self.assertEqual(len(told), due_count(one, other, third))

    def test_point_15_against_all_orders_of_the_numbers(self):
        for one, other in PAIRS:
            if sum(other) <= 5:
                for third in thirds(one, other):
                    due = tried(one, other, third) if fits(one, other, third) else []
                    self.assertEqual(counted(one, other, third), due)

    def test_point_15_as_many_as_merged_says(self):
        for many in (1, 2, 3, 4):
            for one, other in PAIRS:
                told = dict(merged(many, one, other))
                for third in thirds(one, other):
                    if len(third) <= many:
                        self.assertEqual(len(counted(one, other, third)), told.get(third, 0))

    def test_point_15_none_where_rows_do_not_fit(self):
        for one, other, third in itertools.product(ROWS[::2], ROWS[::3], ROWS):
            if not fits(one, other, third):
                self.assertEqual(counted(one, other, third), [])
        # More numbers than the third one, a greater one at some place, weights that are too little or too great.
        for one, other, third in (((1, 1, 1), (1,), (3, 1)), ((2, 2), (1,), (4, 1)), ((3,), (1, 1), (2, 2, 1)),
                                  ((1,), (1,), (2, 1)), ((2, 1), (1,), (2, 1)), ((2, 1), (), (2,)), ((), (1,), ()),
                                  ((8,), (8,), (8,)), ((), (2,), (1,))):
            self.assertEqual(counted(one, other, third), [])

    def test_point_7_bad_row(self):
        for bad in BAD_ROWS:
            for row, more in (((), ()), ((1,), (2,)), ((2, 1), (3, 1)), ((8,), (8,)), ((1,) * 8, (1,))):
                check_refused(self, BadRow, counted, bad, row, more)
                check_refused(self, BadRow, counted, row, bad, more)
                check_refused(self, BadRow, counted, row, more, bad)
            for row in ((), (3, 1)):
                check_refused(self, BadRow, counted, bad, bad, row)
                check_refused(self, BadRow, counted, row, bad, bad)
                check_refused(self, BadRow, counted, bad, row, bad)
            check_refused(self, BadRow, counted, bad, bad, bad)

    def test_point_4_a_refusal_changes_nothing(self):
        for bad in BAD_ROWS:
            with self.assertRaises(BadRow):
                counted((2, 1), (2, 1), bad)
            self.assertEqual(counted((2, 1), (2, 1), (3, 2, 1)), [((0,), (0,), (1,)), ((0,), (1,), (0,))])

    def test_point_2_what_was_handed_in_and_told(self):
        for one, other in PAIRS[::2]:
            for third in thirds(one, other):
                check_own(self, counted, one, other, third)
