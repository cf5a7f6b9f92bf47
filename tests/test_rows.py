import inspect
import itertools
import unittest

from evenform import rows as module
from evenform.errors import BadRow, UnlikeWeights
from evenform.rows import rows, steps, turned
from support import BAD_ROWS, ENDLESS, SIXTY, all_rows, check_own, check_refused


def moves(row):
    """All rows that come by taking 1 off a number and putting it to a later place."""
    found = set()
    for take in range(len(row)):
        for put in range(take + 1, len(row) + 1):
            numbers = list(row) + [0]
            numbers[take] -= 1
            numbers[put] += 1
            if numbers[-1] == 0:
                numbers.pop()
            if min(numbers) > 0 and numbers == sorted(numbers, reverse=True):
                found.add(tuple(numbers))
    return found


def reached(row):
    found, waiting = {row}, [row]
    while waiting:
        for after in moves(waiting.pop()) - found:
            found.add(after)
            waiting.append(after)
    return found


def over(one, other):
    """Point 8's words: for each k the sum of the first k numbers is no less."""
    one, other = one + (0,) * 8, other + (0,) * 8
    return all(sum(one[:k]) >= sum(other[:k]) for k in range(9))


class Interface(unittest.TestCase):
    def test_names_and_arguments(self):
        told = {"rows": ["weight", "most"], "turned": ["row"], "steps": ["one", "other"]}
        for name, arguments in told.items():
            self.assertEqual(list(inspect.signature(getattr(module, name)).parameters), arguments)


class Rows(unittest.TestCase):
    def test_point_7_written_out(self):
        self.assertEqual(rows(4, 4), [(4,), (3, 1), (2, 2), (2, 1, 1), (1, 1, 1, 1)])
        self.assertEqual(rows(4, 2), [(4,), (3, 1), (2, 2)])
        self.assertEqual(rows(3, 1), [(3,)])
        self.assertEqual(rows(1, 1), [(1,)])

    def test_point_7_how_many(self):
        self.assertEqual([len(rows(weight, 8)) for weight in range(9)], [1, 1, 2, 3, 5, 7, 11, 15, 22])

    def test_point_7_each_weight_and_number(self):
        for weight in range(9):
            for most in list(range(10)) + [SIXTY, ENDLESS]:
                told = rows(weight, most)
                self.assertEqual(told, [row for row in all_rows(weight) if len(row) <= most])
                self.assertIsInstance(told, list)
                for row in told:
                    self.assertIsInstance(row, tuple)

    def test_point_3_greater_ones_first(self):
        for weight in range(9):
            told = rows(weight, 8)
            for row, later in zip(told, told[1:]):
                place = [a == b for a, b in zip(row, later)].index(False)
                self.assertGreater(row[place], later[place])

    def test_point_7_weight_0(self):
        for most in (0, 1, 4, 9, SIXTY):
            self.assertEqual(rows(0, most), [()])

    def test_point_7_no_numbers(self):
        for weight in range(1, 9):
            self.assertEqual(rows(weight, 0), [])

    def test_point_2_what_was_told(self):
        for weight in range(9):
            check_own(self, rows, weight, 8)


class Turned(unittest.TestCase):
    def test_point_7_written_out(self):
        self.assertEqual(turned((4, 2, 1)), (3, 2, 1, 1))
        self.assertEqual(turned((8,)), (1,) * 8)
        self.assertEqual(turned((1,) * 8), (8,))
        self.assertEqual(turned((3, 3)), (2, 2, 2))
        self.assertEqual(turned(()), ())

    def test_point_7_each_row(self):
        for weight in range(9):
            for row in all_rows(weight):
                told = turned(row)
                self.assertIsInstance(told, tuple)
                counts = [sum(number > k for number in row) for k in range(9)]
                self.assertEqual(told, tuple(count for count in counts if count))
                self.assertEqual(turned(told), row)
                self.assertEqual(sum(told), weight)

    def test_point_7_bad_row(self):
        for bad in BAD_ROWS:
            check_refused(self, BadRow, turned, bad)

    def test_point_2_what_was_handed_in_and_told(self):
        check_own(self, turned, (4, 2, 1))
        check_own(self, turned, ())

    def test_point_4_a_refusal_changes_nothing(self):
        for bad in BAD_ROWS:
            check_refused(self, BadRow, turned, bad)
            self.assertEqual(turned((4, 2, 1)), (3, 2, 1, 1))
            self.assertEqual(rows(2, 2), [(2,), (1, 1)])


class Steps(unittest.TestCase):
    def test_point_8_all_pairs_of_each_weight(self):
        for weight in range(9):
            for one, other in itertools.product(all_rows(weight), repeat=2):
                with self.subTest(one=one, other=other):
                    self.check_pair(one, other)

    def check_pair(self, one, other):
        told = steps(one, other)
        self.assertEqual(over(one, other), other in reached(one))
        if not over(one, other):
            self.assertIsNone(told)
            return
        self.assertIsInstance(told, list)
        self.assertEqual(told[0], one)
        self.assertEqual(told[-1], other)
        for row, after in zip(told, told[1:]):
            self.assertIsInstance(after, tuple)
            self.assertIn(after, moves(row))

    def test_point_8_a_row_and_itself(self):
        for weight in range(9):
            for row in all_rows(weight):
                self.assertEqual(steps(row, row), [row])

    def test_point_8_written_out(self):
        self.assertEqual(steps((2,), (1, 1)), [(2,), (1, 1)])
        self.assertIsNone(steps((1, 1), (2,)))
        self.assertEqual(steps((3,), (1, 1, 1)), [(3,), (2, 1), (1, 1, 1)])
        self.assertIsNone(steps((4, 1, 1), (3, 3)))
        self.assertIsNone(steps((3, 3), (4, 1, 1)))

    def test_point_8_unlike_weights(self):
        for weight, another in itertools.permutations(range(9), 2):
            for one, other in itertools.product(all_rows(weight), all_rows(another)):
                check_refused(self, UnlikeWeights, steps, one, other)

    def test_point_8_bad_row_ahead_of_all(self):
        for bad in BAD_ROWS:
            for row in ((), (1,), (2, 1), (8,), (1,) * 8):
                check_refused(self, BadRow, steps, bad, row)
                check_refused(self, BadRow, steps, row, bad)
            for another in BAD_ROWS:
                check_refused(self, BadRow, steps, bad, another)

    def test_point_2_what_was_handed_in_and_told(self):
        check_own(self, steps, (4, 1), (2, 1, 1, 1))
        check_own(self, steps, (2, 1), (2, 1))
        check_own(self, steps, (), ())
        check_own(self, steps, (1, 1), (2,))

    def test_point_4_a_refusal_changes_nothing(self):
        due = steps((3, 1), (1, 1, 1, 1))
        for bad in BAD_ROWS:
            check_refused(self, BadRow, steps, (3, 1), bad)
            check_refused(self, UnlikeWeights, steps, (3, 1), (3,))
            self.assertEqual(steps((3, 1), (1, 1, 1, 1)), due)
