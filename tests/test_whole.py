"""What the document promises over the whole program: points 1 to 4, 7, 9 and 10, and the interface."""

import copy
import importlib
import itertools
import unittest

from evenform.carry import carried
from evenform.desk import Desk
from evenform.errors import (BadCount, BadName, BadPowers, BadRow, EvenError, NoKind, NoLine, NoName, NotBy, NoText,
                             TooGreat, TooLong, Uneven, UnlikeWeights)
from evenform.exchanges import by_exchange, exchange_sum, uneven
from evenform.fillings import by_fillings, filled_sum, fillings
from evenform.merging import counted, merged
from evenform.pairing import flipped, pair
from evenform.polys import at, exchanged, less, made, plus, times
from evenform.powers import by_power, power_sum
from evenform.products import by_elementary, by_whole, elementary_sum, whole_sum
from evenform.rows import rows, steps, turned
from evenform.rules import elementary_rule, whole_rule
from evenform.texts import read, shown, told
from support import (BAD_COUNTS, BAD_ROWS, ENDLESS, KINDS, SIXTY, Case, all_rows, changed, check_own, check_refused,
                     due_uneven, even, even_samples, lets_in, row_numbers, rows_within, shared, told_by,
                     uneven_samples)

NAMES = {"polys": "made plus less times exchanged at", "rows": "rows turned steps",
         "exchanges": "uneven exchange_sum by_exchange", "products": "elementary_sum whole_sum by_elementary by_whole",
         "powers": "power_sum by_power", "fillings": "fillings filled_sum by_fillings", "merging": "merged counted",
         "pairing": "pair flipped", "rules": "whole_rule elementary_rule", "carry": "carried",
         "texts": "read shown told", "desk": "Desk"}

EVEN = even(2, {(2,): 3, (1, 1): -SIXTY, (): 7})
ODD = [((2, 1), 1), ((0, 1), 4)]
TELLING = [((2, 2), (-1, 2)), ((2, 1), (SIXTY, 7)), ((1,), (3, 1))]
WHOLE_TELLING = [((2, 2), 5), ((2, 1), -1), ((), 4)]

QUESTIONS = [
    (made, 2, [((0, 1), 4), ((2, 1), 2), ((2, 1), -1)]), (plus, EVEN, ODD), (less, ODD, EVEN), (times, EVEN, ODD),
    (at, EVEN, [SIXTY, -5]), (exchanged, ODD, 0), (rows, 6, 3), (turned, (4, 2, 1)), (steps, (4, 1), (2, 1, 1, 1)),
    (uneven, 2, EVEN), (uneven, 2, ODD), (exchange_sum, 3, (2, 1)), (by_exchange, 2, EVEN), (elementary_sum, 3, (2, 1)),
    (whole_sum, 3, (2, 1)), (by_elementary, 2, EVEN), (by_whole, 2, EVEN), (power_sum, 3, (2, 1)), (by_power, 2, EVEN),
    (fillings, 3, (2, 1)), (filled_sum, 3, (2, 1)), (by_fillings, 2, EVEN), (merged, 3, (2, 1), (2, 1)),
    (counted, (2, 1), (2, 1), (3, 2, 1)), (pair, 2, EVEN, EVEN), (flipped, WHOLE_TELLING), (whole_rule, (3, 2, 1)),
    (elementary_rule, (3, 2, 1)), (carried, 2, TELLING, "power", "filling"), (read, 2, "x + 3xy^2 - 5 + x"),
    (shown, 2, EVEN), (told, TELLING)]

# Each function that refuses anything, with each class that it may refuse with.
REFUSED = [
    (BadCount, made, 0, ODD), (BadPowers, made, 2, [((9, 0), 1)]), (TooGreat, times, [((5, 0), 1)], [((0, 4), 1)]),
    (BadRow, turned, (1, 2)), (BadRow, steps, (0,), (1,)), (UnlikeWeights, steps, (2,), (1,)),
    (BadCount, uneven, 5, ODD), (BadRow, exchange_sum, 2, (9,)), (BadCount, exchange_sum, 0, (1,)),
    (TooLong, exchange_sum, 2, (1, 1, 1)), (BadCount, by_exchange, 0, ODD), (Uneven, by_exchange, 2, ODD),
    (BadRow, elementary_sum, 2, (1, 2)), (BadCount, elementary_sum, 5, (2,)), (BadRow, whole_sum, 2, (1, 2)),
    (BadCount, whole_sum, 5, (2,)), (BadCount, by_elementary, 0, ODD), (Uneven, by_elementary, 2, ODD),
    (BadCount, by_whole, 0, ODD), (Uneven, by_whole, 2, ODD), (BadRow, power_sum, 2, (0,)),
    (BadCount, power_sum, 5, (2,)), (BadCount, by_power, 0, ODD), (Uneven, by_power, 2, ODD),
    (BadRow, fillings, 2, (0,)), (BadCount, fillings, 5, (2,)), (BadRow, filled_sum, 2, (0,)),
    (BadCount, filled_sum, 5, (2,)), (BadCount, by_fillings, 0, ODD), (Uneven, by_fillings, 2, ODD),
    (BadRow, merged, 2, (1,), (9,)), (BadCount, merged, 0, (1,), (1,)), (TooGreat, merged, 2, (5,), (4,)),
    (BadRow, counted, (1,), (1, 2), (3,)), (BadCount, pair, 0, EVEN, EVEN), (Uneven, pair, 2, EVEN, ODD),
    (BadRow, flipped, [((0,), 1)]), (BadRow, whole_rule, (1, 2)), (BadRow, elementary_rule, (1, 2)),
    (BadRow, carried, 2, [((0,), (1, 1))], "power", "whole"), (BadCount, carried, 0, TELLING, "power", "whole"),
    (NoKind, carried, 2, TELLING, "power", "none"), (NotBy, carried, 2, [((3,), (1, 1))], "power", "whole"),
    (BadCount, read, 0, "x"), (NoText, read, 2, "0x"), (BadCount, shown, 0, EVEN), (BadRow, told, [((1, 2), (1, 1))])]

# Functions of n and a row, and of n and an even polynomial.
WITH_ROW = (exchange_sum, elementary_sum, whole_sum, power_sum, fillings, filled_sum)
WITH_POLYNOMIAL = (by_exchange, by_elementary, by_whole, by_power, by_fillings)


class Interface(unittest.TestCase):
    def test_each_name_is_in_its_file(self):
        for name, words in NAMES.items():
            module = importlib.import_module(f"evenform.{name}")
            for word in words.split():
                self.assertEqual(getattr(module, word).__module__, f"evenform.{name}")

    def test_the_questions_ask_each_function(self):
        asked = {function.__name__ for function, *_ in QUESTIONS}
        self.assertEqual(asked | {"Desk"}, set(" ".join(NAMES.values()).split()))


class Answers(Case):
    def assert_plain(self, value):
        """Only whole numbers, texts, None, lists and tuples, never True or False."""
        self.assertIn(type(value), (int, str, list, tuple, type(None)))
        if isinstance(value, (list, tuple)):
            for entry in value:
                self.assert_plain(entry)

    def ask_all(self):
        return [function(*copy.deepcopy(handed)) for function, *handed in QUESTIONS]

    def test_point_3_no_answer_holds_true_or_false(self):
        for answer in self.ask_all():
            self.assert_plain(answer)

    def test_point_2_what_was_handed_in_and_told(self):
        for function, *handed in QUESTIONS:
            check_own(self, function, *copy.deepcopy(handed))

    def test_point_2_changing_what_one_told_changes_no_answer_of_another(self):
        before = self.ask_all()
        kept = copy.deepcopy(before)
        for answer in self.ask_all():
            changed(answer)
        self.assertEqual(before, kept)
        self.assertEqual(self.ask_all(), kept)

    def test_point_4_what_is_asked_behind_a_refusal(self):
        desk = Desk()
        desk.tell("let a = x + y")
        before = self.ask_all()
        for refusal, function, *handed in REFUSED:
            check_refused(self, refusal, function, *copy.deepcopy(handed))
            self.assertEqual(self.ask_all(), before)
            self.assertEqual([desk.tell(line) for line in ("show a", "by power a")], ["x + y", "power [1]"])

    def test_point_4_each_refusal_is_due_somewhere_and_stands_straight_beneath_even_error(self):
        found = {refusal for refusal, *_ in REFUSED}
        for refusal, line in ((NoLine, "a"), (BadName, "let A = x"), (NoKind, "by a a"), (BadCount, "unknowns 5"),
                              (NoText, "let a = X"), (NoName, "show a")):
            check_refused(self, refusal, Desk().tell, line)
            found.add(refusal)
        self.assertEqual(found, set(EvenError.__subclasses__()))
        self.assertEqual(EvenError.__bases__, (ValueError,))
        for refusal in found:
            self.assertEqual(refusal.__bases__, (EvenError,))
            self.assertEqual(refusal.__subclasses__(), [])


class Orders(Case):
    def test_point_7_bad_row_wherever_a_row_is_handed_in(self):
        for bad, many in itertools.product(BAD_ROWS, (2, 0, 5, -ENDLESS)):
            for function in WITH_ROW:
                check_refused(self, BadRow, function, many, bad)
            for one, other in ((bad, (8,)), ((8,), bad), (bad, bad)):
                check_refused(self, BadRow, merged, many, one, other)
                check_refused(self, BadRow, steps, one, other)
                for third in ((1,), bad):
                    check_refused(self, BadRow, counted, one, other, third)
            check_refused(self, BadRow, counted, (1,), (1,), bad)
            for function in (turned, whole_rule, elementary_rule):
                check_refused(self, BadRow, function, bad)
            check_refused(self, BadRow, flipped, [((8,), 1), (bad, 1)])
            check_refused(self, BadRow, told, [((8,), (1, 2)), (bad, (1, 1))])
            for kind, other in (("whole", "power"), ("none", ""), ("filling", "none")):
                check_refused(self, BadRow, carried, many, [((1,) * 8, (1, 2)), (bad, (1, 1))], kind, other)

    def test_point_10_bad_count_whatever_else_is_handed_in(self):
        for bad in BAD_COUNTS:
            for function, row in itertools.product(WITH_ROW, ((), (8,), (1,) * 8)):
                check_refused(self, BadCount, function, bad, row)
            for function, some in itertools.product(WITH_POLYNOMIAL + (uneven, shown), ([], EVEN, ODD, [((1,), 2)])):
                check_refused(self, BadCount, function, bad, some)
            check_refused(self, BadCount, pair, bad, ODD, ODD)
            check_refused(self, BadCount, merged, bad, (8,), (8,))
            check_refused(self, BadCount, carried, bad, [((8,), (1, 2)), ((1,) * 8, (1, 2))], "", "none")
            check_refused(self, BadCount, read, bad, "0x")
            check_refused(self, BadCount, made, bad, [((9, 9), 1)])

    def test_points_9_and_10_what_uneven_tells_is_what_is_refused(self):
        for many in (2, 3, 4):
            for some in uneven_samples(many)[::9]:
                found = due_uneven(many, some)
                self.assertEqual(uneven(many, some), found)
                for function in WITH_POLYNOMIAL:
                    with self.assertRaises(Uneven) as caught:
                        function(many, some)
                    self.assertEqual((caught.exception.place, caught.exception.powers), found)


class HandedOn(Case):
    """Point 3: numbers and lists that one function told, handed to the others."""

    def test_sums_of_rows(self):
        for many in (1, 2, 3, 4):
            for row in rows(5, 5) + rows(3, 3):
                for kind, function in (("elementary", elementary_sum), ("whole", whole_sum), ("power", power_sum)):
                    some = function(many, row)
                    self.assertIsNone(uneven(many, some))
                    if lets_in(kind, many, row):
                        self.assertEqual(told_by(kind, many, some), [(row, (1, 1))])
                    self.assertEqual(read(many, shown(many, some)), some)
                self.assertEqual(by_fillings(many, filled_sum(many, row)), [(row, 1)] if len(row) <= many else [])

    def test_tellings_carried_and_written(self):
        for many in (1, 2, 3, 4):
            for some in even_samples(many)[::5]:
                for kind, other in itertools.product(KINDS, repeat=2):
                    telling = told_by(kind, many, some)
                    self.assertEqual(carried(many, telling, kind, other), told_by(other, many, some))

    def test_rules_carried_to_the_row_itself(self):
        for row in [row for weight in range(5) for row in all_rows(weight)]:
            for kind, rule in (("whole", whole_rule), ("elementary", elementary_rule)):
                self.assertEqual(carried(4, shared(rule(row)), kind, "filling"), [(row, (1, 1))])
            self.assertEqual(whole_rule(turned(row)), elementary_rule(row))
            self.assertEqual(flipped(by_fillings(4, whole_sum(4, row))), by_fillings(4, elementary_sum(4, row)))

    def test_products_of_filled_sums(self):
        for one, other in itertools.product(rows(3, 3) + rows(2, 2), repeat=2):
            telling = merged(4, one, other)
            some = times(filled_sum(4, one), filled_sum(4, other))
            self.assertEqual(by_fillings(4, some), telling)
            self.assertEqual(carried(4, shared(telling), "filling", "power"), by_power(4, some))
            for row, often in telling:
                self.assertEqual(len(counted(one, other, row)), often)
                self.assertEqual(pair(4, some, filled_sum(4, row)), often)
            for row in steps((6,), (1,) * 6):
                self.assertEqual(turned(turned(row)), row)
                self.assertEqual(len(counted(one, other, row)), len(counted(other, one, row)))
            self.assertEqual(flipped(flipped(telling)), telling)

    def test_numbers_of_many_figures(self):
        number = at([((8, 0), SIXTY), ((0, 0), 1)], [SIXTY, 0])
        self.assertEqual(number, SIXTY ** 9 + 1)
        some = made(3, [((1, 0, 0), number), ((0, 1, 0), number), ((0, 0, 1), number), ((0, 0, 0), -number)])
        self.assertEqual(at(some, [number, number, number]), 3 * number * number - number)
        product = times(some, some)
        share = pair(3, product, product)
        self.assertEqual(share, 2 * number ** 4 + 4 * number ** 4 + number ** 4)
        for kind in KINDS:
            telling = told_by(kind, 3, product)
            self.assertEqual(carried(3, telling, kind, "exchange"), shared(by_exchange(3, product)))
            parted = [(row, (1 if row == () else -1, share)) for row, _ in telling]
            self.assertEqual(carried(3, carried(3, parted, kind, "power"), "power", kind), parted)
            self.assertIn(f"{number * number}", told(telling))
        self.assertEqual(shown(3, some), f"{number}x + {number}y + {number}z - {number}")

    def test_a_told_list_changed_behind_the_next_call(self):
        some = even(3, row_numbers(3, range(6), 2))
        kept = copy.deepcopy(some)
        telling = by_power(3, some)
        before = copy.deepcopy(telling)
        carried_on = carried(3, telling, "power", "whole")
        changed(some)
        changed(telling)
        self.assertEqual(carried_on, shared(by_whole(3, kept)))
        self.assertEqual(carried(3, carried_on, "whole", "power"), before)

    def test_texts_handed_to_a_desk(self):
        for many in (1, 2, 3, 4):
            desk = Desk()
            desk.tell(f"unknowns {many}")
            for row in rows_within(many)[::3]:
                some = filled_sum(many, row)
                desk.tell(f"let a = {shown(many, some)}")
                self.assertEqual(desk.tell("show a"), shown(many, some))
                for kind in KINDS:
                    self.assertEqual(desk.tell(f"by {kind} a"), f"{kind} {told(told_by(kind, many, some))}")
