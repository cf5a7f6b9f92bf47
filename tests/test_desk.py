import inspect
import itertools
import re
import unittest

from evenform import desk as module
from evenform.desk import Desk
from evenform.errors import BadCount, BadName, EvenError, NoKind, NoLine, NoName, NoText, TooGreat, Uneven
from support import (BAD_KINDS, KINDS, SIXTY, Case, added_powers, added_up, due_uneven, multiply, polynomial_of,
                     text_samples, told_by, uneven_samples, written, written_telling)

LONGEST = "abcdefghijkl"
BAD_NAMES = ["abcdefghijklm", "a" * 13, "A", "aB", "a1", "1", "a_b", "a-b", "-", "+", "=", "==", "a=", "0", "x^2", "~",
             "a.b", "2x", "z" * 1000, "a,", "'a'"]
SETUP = ("let a = x + y", "let b = 2x^5 - y", "let zero = x - x", "let five = -5")
FIRST_WORDS = ["unknowns", "let", "add", "mul", "show", "even", "by"]


class Interface(unittest.TestCase):
    def test_names_and_arguments(self):
        self.assertEqual(list(inspect.signature(module.Desk).parameters), [])
        self.assertEqual(list(inspect.signature(module.Desk.tell).parameters), ["self", "line"])


def desk_with(*lines):
    desk = Desk()
    for line in lines:
        desk.tell(line)
    return desk


def telling_text(kind, many, some):
    return written_telling(told_by(kind, many, some))


class Model:
    """What points 21 and 22 say of a desk, in the tests' own words."""

    def __init__(self):
        self.many, self.names = 2, {}

    def parts(self, line):
        """The first word, the name to be given, the names asked, the kind, the count and the text; None for no form."""
        forms = (r"(?P<word>unknowns) (?P<count>[^ ]+)", r"(?P<word>let) (?P<name>[^ ]+) = (?P<text>[^ ]+( [^ ]+)*)",
                 r"(?P<word>add|mul) (?P<name>[^ ]+) = (?P<one>[^ ]+) (?P<other>[^ ]+)",
                 r"(?P<word>show|even) (?P<one>[^ ]+)", r"(?P<word>by) (?P<kind>[^ ]+) (?P<one>[^ ]+)")
        found = [match for match in (re.fullmatch(form, line) for form in forms) if match]
        return found[0].groupdict() if found else None

    def due_refusals(self, parts):
        """All that are due, in the order of point 22."""
        if parts is None:
            return [NoLine]
        asked = [parts[key] for key in ("one", "other") if key in parts]
        known = [self.names[name] for name in asked if name in self.names]
        most = [max((sum(powers) for powers, _ in some), default=-9) for some in known]
        return [refusal for refusal, is_due in (
            (BadName, "name" in parts and not re.fullmatch("[a-z]{1,12}", parts["name"])),
            (NoKind, "kind" in parts and parts["kind"] not in KINDS),
            (BadCount, "count" in parts and parts["count"] not in ("1", "2", "3", "4")),
            (NoText, "text" in parts and polynomial_of(self.many, parts["text"]) is None),
            (NoName, len(known) < len(asked)), (TooGreat, parts["word"] == "mul" and len(known) == 2 and sum(most) > 8),
            (Uneven, parts["word"] == "by" and known and due_uneven(self.many, known[0]) is not None)) if is_due]

    def answer(self, parts):
        word = parts["word"]
        if word == "unknowns":
            self.many, self.names = int(parts["count"]), {}
            return f"unknowns {self.many}"
        if word == "let":
            self.names[parts["name"]] = polynomial_of(self.many, parts["text"])
            return f"let {parts['name']}"
        if word in ("add", "mul"):
            one, other = self.names[parts["one"]], self.names[parts["other"]]
            self.names[parts["name"]] = added_up(one, other) if word == "add" else multiply(one, other, added_powers)
            return f"{word} {parts['name']}"
        some = self.names[parts["one"]]
        if word == "show":
            return written(some)
        if word == "by":
            return f"{parts['kind']} {telling_text(parts['kind'], self.many, some)}"
        found = due_uneven(self.many, some)
        return "even" if found is None else " ".join(map(str, ("uneven", found[0]) + found[1]))


class DeskCase(Case):
    def assert_refused(self, refusal, desk, line):
        """Just this class is raised."""
        with self.assertRaises(EvenError, msg=line) as caught:
            desk.tell(line)
        self.assertEqual(caught.exception.__class__, refusal, line)
        return caught.exception

    def assert_answers(self, desk, *pairs):
        for line, answer in pairs:
            self.assertEqual(desk.tell(line), answer, line)

    def assert_holds(self, desk, model):
        """All names stand for what the model has, and there are as many unknowns."""
        for name, some in model.names.items():
            self.assertEqual(desk.tell(f"show {name}"), written(some))
        for letter in "xyzw"[model.many:]:
            self.assert_refused(NoText, desk, f"let probe = {letter}")
        for name in ("probe", "no", "w"):
            if name not in model.names:
                self.assert_refused(NoName, desk, f"show {name}")

    def assert_line(self, desk, model, line):
        """The desk answers or refuses as the model does; tells whether it answered."""
        parts = model.parts(line)
        refusals = model.due_refusals(parts)
        if refusals == []:
            self.assertEqual(desk.tell(line), model.answer(parts), line)
            return True
        refusal = self.assert_refused(refusals[0], desk, line)
        if refusals[0] is Uneven:
            found = due_uneven(model.many, model.names[parts["one"]])
            self.assertEqual((refusal.place, refusal.powers), found)
        return False


class Lines(DeskCase):
    def test_point_21_written_out(self):
        self.assert_answers(
            Desk(), ("let p = x^2 + 3xy + y^2", "let p"), ("show p", "x^2 + 3xy + y^2"), ("even p", "even"),
            ("by exchange p", "exchange [2] + 3[1,1]"), ("by elementary p", "elementary [2] + [1,1]"),
            ("by whole p", "whole -[2] + 2[1,1]"), ("by power p", "power -1/2[2] + 3/2[1,1]"),
            ("by filling p", "filling [2] + 2[1,1]"), ("let q = y - 3", "let q"), ("even q", "uneven 0 1 0"),
            ("add r = p q", "add r"), ("show r", "x^2 + 3xy + y^2 + y - 3"), ("mul p = q q", "mul p"),
            ("show p", "y^2 - 6y + 9"), ("unknowns 3", "unknowns 3"), ("let p = x + y + z", "let p"),
            ("mul p = p p", "mul p"), ("by power p", "power [1,1]"), ("show p", "x^2 + 2xy + 2xz + y^2 + 2yz + z^2"),
            ("let p = x^2 + y^2", "let p"), ("even p", "uneven 1 0 2 0"))

    def test_point_21_two_unknowns_and_no_names_at_first(self):
        desk = Desk()
        self.assert_refused(NoName, desk, "show a")
        self.assert_refused(NoText, desk, "let a = z")
        self.assert_answers(desk, ("let a = xy", "let a"), ("show a", "xy"))

    def test_point_21_unknowns_forgets_all_names(self):
        for many in ("1", "2", "3", "4"):
            desk = desk_with(*SETUP)
            self.assert_answers(desk, (f"unknowns {many}", f"unknowns {many}"))
            for name in ("a", "b", "zero", "five"):
                self.assert_refused(NoName, desk, f"show {name}")
            for place, letter in enumerate("xyzw"):
                if place < int(many):
                    self.assert_answers(desk, (f"let a = {letter}", "let a"), ("show a", letter))
                else:
                    self.assert_refused(NoText, desk, f"let a = {letter}")

    def test_point_21_names(self):
        desk = Desk()
        words = ["a", "z", "x", "xy", LONGEST, "nopqrstuvwxy", "zzzzzzzzzzzz", "uneven"]
        for name in words + FIRST_WORDS + KINDS:
            self.assert_answers(desk, (f"let {name} = x", f"let {name}"),
                                (f"add {name} = {name} {name}", f"add {name}"),
                                (f"mul {name} = {name} {name}", f"mul {name}"), (f"show {name}", "4x^2"),
                                (f"even {name}", "uneven 0 2 0"), (f"add {name} = {name} {name}", f"add {name}"))
            self.assertEqual(self.assert_refused(Uneven, desk, f"by whole {name}").powers, (2, 0))

    def test_point_21_names_let_anew(self):
        self.assert_answers(
            Desk(), ("let a = x", "let a"), ("let b = y", "let b"), ("let a = 2y", "let a"), ("show a", "2y"),
            ("show b", "y"), ("add b = a b", "add b"), ("show b", "3y"), ("show a", "2y"), ("add a = b a", "add a"),
            ("show a", "5y"), ("mul a = a b", "mul a"), ("show a", "15y^2"), ("mul c = b b", "mul c"),
            ("let b = 0", "let b"), ("show c", "9y^2"), ("add c = c b", "add c"), ("show c", "9y^2"),
            ("mul c = c b", "mul c"), ("show c", "0"))

    def test_point_21_added_to_and_multiplied_with_itself(self):
        eighth = "512x^8 - 4096x^7 + 14336x^6 - 28672x^5 + 35840x^4 - 28672x^3 + 14336x^2 - 4096x + 512"
        self.assert_answers(
            Desk(), ("let a = x - 1", "let a"), ("add a = a a", "add a"), ("show a", "2x - 2"),
            ("mul a = a a", "mul a"), ("show a", "4x^2 - 8x + 4"), ("mul b = a a", "mul b"),
            ("show b", "16x^4 - 64x^3 + 96x^2 - 64x + 16"), ("mul b = b b", "mul b"), ("add a = b b", "add a"),
            ("even b", "uneven 0 8 0"), ("show a", eighth))

    def test_point_21_a_text_of_several_words(self):
        self.assert_answers(desk_with("let a = y + x - 3xy + x - x + 2"), ("show a", "-3xy + x + y + 2"),
                            ("even a", "even"))

    def test_point_21_two_desks_side_by_side(self):
        one, other = Desk(), Desk()
        self.assert_answers(one, ("let a = x + y", "let a"))
        self.assert_refused(NoName, other, "show a")
        self.assert_answers(other, ("unknowns 3", "unknowns 3"), ("let a = z", "let a"))
        self.assert_answers(one, ("show a", "x + y"), ("even a", "even"), ("by power a", "power [1]"))
        self.assert_refused(NoText, one, "let a = z")
        self.assert_answers(other, ("show a", "z"), ("even a", "uneven 1 0 1 0"))
        self.assert_answers(one, ("unknowns 1", "unknowns 1"))
        self.assert_answers(other, ("show a", "z"))
        self.assert_refused(NoName, Desk(), "show a")

    def test_point_21_even_and_each_kind_of_even_polynomials(self):
        for many in (1, 2, 3, 4):
            desk = desk_with(f"unknowns {many}")
            for some in [some for some in text_samples(many) if len(written(some)) <= 1180][::3]:
                self.assert_answers(desk, (f"let some = {written(some)}", "let some"), ("even some", "even"),
                                    ("show some", written(some)))
                for kind in KINDS:
                    self.assert_answers(desk, (f"by {kind} some", f"{kind} {telling_text(kind, many, some)}"))

    def test_point_21_nought_by_each_kind(self):
        for many in (1, 2, 3, 4):
            desk = desk_with(f"unknowns {many}", "let a = 0", "let b = 1", "let c = -1")
            for kind in KINDS:
                self.assert_answers(desk, (f"by {kind} a", f"{kind} 0"), (f"by {kind} b", f"{kind} []"),
                                    (f"by {kind} c", f"{kind} -[]"))

    def test_point_21_even_and_each_kind_of_uneven_polynomials(self):
        for many in (2, 3, 4):
            desk = desk_with(f"unknowns {many}")
            for some in [some for some in uneven_samples(many) if len(written(some)) <= 1180][::4]:
                place, powers = due_uneven(many, some)
                self.assert_answers(desk, (f"let a = {written(some)}", "let a"),
                                    ("even a", " ".join(map(str, ("uneven", place) + powers))))
                for kind in KINDS:
                    refusal = self.assert_refused(Uneven, desk, f"by {kind} a")
                    self.assertEqual((refusal.place, refusal.powers), (place, powers))
                self.assert_answers(desk, ("show a", written(some)))

    def test_points_3_and_21_numbers_that_grow(self):
        desk = desk_with("unknowns 2", f"let a = {SIXTY}", "let b = x + y")
        number = SIXTY
        while number < 10 ** 1900:
            self.assert_answers(desk, ("mul a = a a", "mul a"))
            number = number * number
        self.assert_answers(desk, ("show a", f"{number}"), ("mul b = a b", "mul b"),
                            ("show b", f"{number}x + {number}y"), ("by power b", f"power {number}[1]"),
                            ("by elementary a", f"elementary {number}[]"))
        self.assert_answers(desk, *[("mul b = a b", "mul b")] * 20, ("even b", "even"))

    def test_point_21_long_lines(self):
        desk = desk_with("let a = " + " + ".join(["x"] * 298), "let b = " + " - ".join(["9" * 60] * 18))
        self.assert_answers(desk, ("show a", "298x"), ("show b", f"{-16 * SIXTY}"))


class Refusals(DeskCase):
    def setUp(self):
        self.desk = desk_with(*SETUP)
        self.model = Model()
        for line in SETUP:
            self.model.answer(self.model.parts(line))

    def assert_all_refused(self, refusal, lines):
        """Each line is refused with just this class, and changes nothing."""
        for line in lines:
            self.assert_refused(refusal, self.desk, line)
            self.assert_holds(self.desk, self.model)

    def test_point_22_no_line_for_other_first_words(self):
        self.assert_all_refused(NoLine, ["", "a", "=", "x + y", "Show a", "SHOW a", "shows a", "sho a", "unknown 2",
                                         "lets a = x", "sub a = a b", "tell a", "exchange a", "whole", "quit", "0", "~",
                                         "a = x", "plus a = a b"])

    def test_point_22_no_line_for_blanks_twice_ahead_and_behind(self):
        good = ["unknowns 2", "let a = x", "let a = x + y", "add a = a b", "mul a = a five", "show a", "even a",
                "by whole a"]
        lines = [" ", "  ", "   "]
        for line in good:
            lines += [" " + line, line + " ", "  " + line, " " + line + " "]
            lines += [line[:place] + " " + line[place:] for place, sign in enumerate(line) if sign == " "]
        self.assert_all_refused(NoLine, lines)

    def test_point_22_no_line_for_words_too_few_and_too_many(self):
        self.assert_all_refused(NoLine, [
            "unknowns", "unknowns 1 2", "unknowns = 2", "unknowns 5 5", "unknowns a b c", "let", "let a", "let a =",
            "let =", "let a x", "let a x y", "let a x =", "let a == x", "let a =x", "let a= x", "let a=x", "let = a x",
            "let a b = x", "add", "add a", "add a =", "add a = a", "add a = a b a", "add a a b", "add a b = a",
            "add = a b", "add a == a b", "add a = a =b b", "add a + a b", "mul", "mul a", "mul a =", "mul a = a",
            "mul a = a b a", "mul a a b", "mul a x a b", "show", "show a b", "show a a", "show no no", "even",
            "even a b", "even = = =", "by", "by whole", "by a", "by whole a b", "by no no no", "let A x", "add A",
            "mul A = no", "by", "let a - x", "add A1 - no no"])

    def test_point_22_bad_name(self):
        for bad in BAD_NAMES:
            self.assert_all_refused(BadName, [
                f"let {bad} = x", f"let {bad} = 0x", f"let {bad} = = =", f"let {bad} = z w",
                f"add {bad} = a b", f"add {bad} = no a", f"add {bad} = a no", f"add {bad} = = {bad}",
                f"mul {bad} = a b", f"mul {bad} = b b", f"mul {bad} = no A", f"mul {bad} = = ="])

    def test_point_22_no_kind(self):
        kinds = [kind for kind in BAD_KINDS if kind.strip() == kind != "" and " " not in kind]
        self.assertGreater(len(kinds), 8)
        for bad in kinds + ["=", "a", "b", "even", "elementary,"]:
            self.assert_all_refused(NoKind, [f"by {bad} a", f"by {bad} b", f"by {bad} no", f"by {bad} NO",
                                             f"by {bad} ="])

    def test_point_22_bad_count(self):
        self.assert_all_refused(BadCount, [f"unknowns {word}" for word in (
            "0", "5", "-1", "6", "01", "02", "1.", "+2", "2x", "x", "a", "two", "10", "11", "22", "1234", "12", "23",
            "=", "-", "~", "9" * 60, "9" * 1190, "let", "unknowns", "1,2", "2=")])

    def test_point_22_no_text(self):
        self.assert_all_refused(NoText, [f"let {name} = {text}" for name in ("a", "new") for text in (
            "0x", "-0", "x + 0", "yx", "xx", "x^1", "x^9", "x^02", "2 x", "x2", "+x", "- x", "x +y", "x + -y", "z", "=",
            "= x", "a", "x = y", "a + b", "x +", "+", "x y", "x + y z", "X", "1" * 61, "x^8y", "x^5y^4", "five", "xyz",
            "w", "x - - y")])
        for many, text in ((1, "y"), (3, "w"), (3, "xyzw"), (4, "v"), (4, "x^3y^3z^3"), (4, "x^2y^2z^2w^3")):
            desk = desk_with(f"unknowns {many}", "let a = x")
            self.assert_refused(NoText, desk, f"let a = {text}")
            self.assert_answers(desk, ("show a", "x"))

    def test_point_22_no_name(self):
        words = ["no", "A", "aa", "bb", "x", "y", "0", "1", "=", "x+y", "zeroo", "fives", LONGEST, "show"]
        for word in words + BAD_NAMES:
            lines = [f"show {word}", f"even {word}"] + [f"by {kind} {word}" for kind in KINDS]
            for first in ("add", "mul"):
                for name in ("a", "b", "new"):
                    lines += [f"{first} {name} = {word} a", f"{first} {name} = b {word}",
                              f"{first} {name} = {word} {word}"]
            self.assert_all_refused(NoName, lines)
        self.assert_all_refused(NoName, ["add new = new new", "mul new = new a", "mul new = a new"])

    def test_point_22_too_great(self):
        self.assert_all_refused(TooGreat, [f"mul {name} = b b" for name in ("a", "b", "new", "zero")])
        self.assert_answers(self.desk, ("mul c = b zero", "mul c"), ("show c", "0"), ("mul c = b five", "mul c"),
                            ("show c", "-10x^5 + 5y"), ("let d = x^3", "let d"), ("mul d = d b", "mul d"),
                            ("show d", "2x^8 - x^3y"), ("mul d = d five", "mul d"))
        self.assert_refused(TooGreat, self.desk, "mul e = d a")
        self.assert_refused(TooGreat, self.desk, "mul d = a d")
        self.assert_answers(self.desk, ("show d", "-10x^8 + 5x^3y"), ("add d = d b", "add d"))
        self.assert_refused(NoName, self.desk, "show e")

    def test_point_22_uneven(self):
        for kind in KINDS:
            refusal = self.assert_refused(Uneven, self.desk, f"by {kind} b")
            self.assertEqual((refusal.place, refusal.powers), (0, (5, 0)))
            self.assertEqual(vars(refusal), {"place": 0, "powers": (5, 0)})
            self.assert_holds(self.desk, self.model)

    def test_points_21_and_22_all_short_lines(self):
        words = FIRST_WORDS + ["=", "a", "b", "no", "A", "x", "whole", "2", "5", "", "+"]
        lines = [line for length in (1, 2, 3) for line in itertools.product(words, repeat=length)]
        few = ["=", "a", "b", "no", "A", "x", "power", "3", "", "-"]
        lines += itertools.product(FIRST_WORDS, few, few, few)
        few = ["=", "a", "b", "no", "B", ""]
        lines += itertools.product(["let", "add", "mul", "by"], few, few, few, few)
        for number, line in enumerate(lines):
            if self.assert_line(self.desk, self.model, " ".join(line)):
                self.assert_holds(self.desk, self.model)
                self.setUp()
            elif number % 7 == 0:
                self.assert_holds(self.desk, self.model)

    def test_points_4_and_22_refused_lines_among_others(self):
        refused = ["", "show", "show no", "let A = x", "let a = 0x", "let new = x +", "unknowns 5", "unknowns 3 ",
                   "unknowns 0", "add a = a no", "add A = a a", "mul a = no a", "mul b = b b", "by whole no",
                   "by wholes a", "by power b", "let  a = x", "add a = a a ", " mul a = a a", "even no", "let a = z",
                   "let a = 1 + 0", "mul zero = b b"]
        lines = ["add c = a b", "mul d = a a", "let a = 3xy", "show c", "even c", "by filling d", "mul a = a five",
                 "unknowns 3", "let a = xyz", "let b = x^5 + y^5 + z^5", "add b = b a", "by power b", "show b",
                 "mul a = a a"]
        plain = desk_with(*SETUP)
        for line in lines:
            for bad in refused:
                if self.model.due_refusals(self.model.parts(bad)) != []:
                    self.assert_line(self.desk, self.model, bad)
            self.assertEqual(self.desk.tell(line), plain.tell(line))
            self.model.answer(self.model.parts(line))
            self.assert_holds(self.desk, self.model)
            self.assert_holds(plain, self.model)


class LongTalk(DeskCase):
    def test_points_21_and_22_a_long_talk(self):
        texts = ["x + y", "x - y", "xy", "0", "2", "x^2 + y^2 + z^2", "x^3y^3 - 4", "x +  y", "yx", "z - 1",
                 "x^4 + y^4", "-x^8"]
        names = ["a", "b", "c", "a", "b", "no", "Z"]
        desk, model, seed, answered = Desk(), Model(), 1, 0

        def pick(some):
            nonlocal seed
            seed = (seed * 1103515245 + 12345) % 2 ** 31
            return some[seed // 65536 % len(some)]

        for _ in range(6000):
            line = pick([f"let {pick(names)} = {pick(texts)}", f"let {pick(names)} = {pick(texts)}",
                         f"add {pick(names)} = {pick(names)} {pick(names)}",
                         f"mul {pick(names)} = {pick(names)} {pick(names)}", f"show {pick(names)}",
                         f"even {pick(names)}", f"by {pick(KINDS + ['no'])} {pick(names)}",
                         f"by {pick(KINDS)} {pick(names)}",
                         f"unknowns {pick('1234506')}" if pick(range(4)) == 0 else "show a"])
            answered += self.assert_line(desk, model, line)
            if max((abs(number) for some in model.names.values() for _, number in some), default=0) > 10 ** 300:
                self.assert_line(desk, model, "unknowns 2")
        self.assert_holds(desk, model)
        self.assertGreater(answered, 2000)
