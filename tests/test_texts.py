import inspect
import itertools
import unittest

from evenform import texts
from evenform.errors import BadCount, BadRow, NoText
from evenform.exchanges import by_exchange
from evenform.polys import at, times
from evenform.powers import by_power
from evenform.texts import read, shown, told
from support import (BAD_COUNTS, BAD_ROWS, ENDLESS, SIXTY, Case, all_powers, check_own, check_refused, even, in_order,
                     one_of, polynomial_of, row_numbers, rows_within, shared, text_samples, uneven_samples, written,
                     written_telling)

TEXTS = ["0", "1", "7", "-7", "xy", "3x^2y", "x + x", "x - x", "-x", "1x", "x + y", "-x - y", "3x^2y - 12xy^2 + 5",
         "x^8", "y^8", "x^4y^4", "-2x^7y + 1", "y + x", "5 - 5", "10x + 20y - 30", "x - x + 1", "1 + 1 + 1"]
NO_TEXTS = ["0x", "-0", "x + 0", "yx", "xx", "x^1", "x^9", "x^02", "2 x", "x2", "+x", "- x", "x +y", "x + -y"]


class Interface(unittest.TestCase):
    def test_names_and_arguments(self):
        for name, arguments in {"read": ["many", "line"], "shown": ["many", "some"], "told": ["telling"]}.items():
            self.assertEqual(list(inspect.signature(getattr(texts, name)).parameters), arguments)


def altered(line, signs):
    """The text with each sign left out, and with another one put in or in its stead."""
    found = {line[:place] + line[place + 1:] for place in range(len(line))}
    for place in range(len(line) + 1):
        for sign in signs:
            found.add(line[:place] + sign + line[place:])
            found.add(line[:place] + sign + line[place + 1:])
    return sorted(found)


class Read(Case):
    def assert_read(self, many, line):
        """The polynomial, or NoText, as the tests' own reckoning has it."""
        expected = polynomial_of(many, line)
        if expected is None:
            with self.assertRaises(NoText, msg=line) as caught:
                read(many, line)
            self.assertEqual(caught.exception.__class__, NoText)
        else:
            self.assertEqual(read(many, line), expected, line)

    def test_point_19_its_own_examples(self):
        for many in (2, 3, 4):
            nought = (0,) * (many - 2)
            self.assertEqual(read(many, "xy"), [((1, 1) + nought, 1)])
            self.assertEqual(read(many, "3x^2y"), [((2, 1) + nought, 3)])
            self.assertEqual(read(many, "x + x"), [((1, 0) + nought, 2)])
            self.assertEqual(read(many, "x - x"), [])
            self.assertEqual(read(many, "-x"), [((1, 0) + nought, -1)])
            self.assertEqual(read(many, "1x"), [((1, 0) + nought, 1)])
            for line in NO_TEXTS:
                check_refused(self, NoText, read, many, line)
        check_refused(self, NoText, read, 2, "z")
        for line in NO_TEXTS + ["xy", "3x^2y", "z"]:
            check_refused(self, NoText, read, 1, line)

    def test_point_19_written_out(self):
        self.assertEqual(read(2, "0"), [])
        self.assertEqual(read(1, "5"), [((0,), 5)])
        self.assertEqual(read(1, "-5x^8 + 12"), [((8,), -5), ((0,), 12)])
        self.assertEqual(read(3, "z + y + x"), [((1, 0, 0), 1), ((0, 1, 0), 1), ((0, 0, 1), 1)])
        self.assertEqual(read(4, "-w + 2xyzw - 10x^2y^2z^2w^2 + 1"),
                         [((2, 2, 2, 2), -10), ((1, 1, 1, 1), 2), ((0, 0, 0, 1), -1), ((0, 0, 0, 0), 1)])
        self.assertEqual(read(2, "x + y - 3x + 2y - x"), [((1, 0), -3), ((0, 1), 3)])
        self.assertEqual(read(2, "x + y - y - x"), [])
        self.assertEqual(read(2, "7 - 7"), [])

    def test_point_19_the_tests_own_reckoning_knows_texts(self):
        for many in (2, 3, 4):
            self.assertEqual([line for line in TEXTS if polynomial_of(many, line) is None], [])
            for line in NO_TEXTS + ["", " ", "-", "+"]:
                self.assertIsNone(polynomial_of(many, line), line)

    def test_point_19_all_short_texts(self):
        for many, signs, most in ((2, "xyz^0128 +-", 4), (2, "xy^2 -", 6), (1, "x^19 +", 5), (4, "xzw^3", 6),
                                  (3, "yzw18", 5)):
            for length in range(most + 1):
                for line in itertools.product(signs, repeat=length):
                    self.assert_read(many, "".join(line))

    def test_point_19_texts_with_one_sign_altered(self):
        for many, lines in ((1, ["x^2 - 10x + 3", "-x^8"]), (2, TEXTS),
                            (3, ["z - 2xy^2z^3 + 14", "-x^2yz - 1 - 30y^3"]), (4, ["xyzw - x^2w^6 + 9", "-5z^2w + w"])):
            for line in lines:
                for other in altered(line, " 0159xyzwa^+-=*/.,()X~"):
                    self.assert_read(many, other)

    def test_point_19_counts_of_any_figures_up_to_60(self):
        for many in (1, 2, 3, 4):
            for length in list(range(1, 60, 9)) + [59, 60]:
                for figures in ("1" + "0" * (length - 1), "9" * length):
                    self.assertEqual(read(many, figures), [((0,) * many, int(figures))])
                    self.assertEqual(read(many, f"-{figures}x"), [((1,) + (0,) * (many - 1), -int(figures))])
            self.assertEqual(read(many, f"{SIXTY} + {SIXTY}"), [((0,) * many, 2 * SIXTY)])
            for length in (61, 62, 100, 1199):
                for figures in ("1" + "0" * (length - 1), "9" * length):
                    for line in (figures, f"{figures}x", f"-{figures}", f"x - {figures}x", f"{figures} - {figures}"):
                        check_refused(self, NoText, read, many, line)

    def test_point_19_counts_with_a_nought_ahead(self):
        for many in (1, 2, 3, 4):
            for line in ("00", "01", "01x", "0x", "-0", "-01", "x - 0", "0 + x", "0 - 0", "0 + 0", "x - 00x", "0" * 60,
                         "0" + "1" * 59, "-0x^2", "0x^2 + x", "0 ", " 0", "+0"):
                check_refused(self, NoText, read, many, line)

    def test_point_19_powers_together_of_8_and_of_9(self):
        for many in (1, 2, 3, 4):
            for powers in [powers for powers in itertools.product(range(9), repeat=many) if 7 <= sum(powers) <= 10]:
                line = written([(powers, 3)])
                if sum(powers) <= 8:
                    self.assertEqual(read(many, line), [(powers, 3)])
                    self.assertEqual(read(many, f"x - {line}"), in_order({**dict(read(many, "x")), powers: -3}))
                else:
                    for other in (line, f"x + {line}", f"{line} - {line}", f"-{line} + 1"):
                        check_refused(self, NoText, read, many, other)

    def test_point_19_letters_beyond_the_first_n(self):
        for many in (1, 2, 3, 4):
            for place, letter in enumerate("xyzw"):
                for line in (letter, f"3{letter}^2", f"-{letter}", f"x + {letter}", f"1 - 2{letter}^8"):
                    if place < many:
                        self.assertEqual(read(many, line), polynomial_of(many, line))
                    else:
                        check_refused(self, NoText, read, many, line)
            for letter in "abuvXYZW":
                check_refused(self, NoText, read, many, letter)

    def test_point_19_unknowns_out_of_order_or_twice(self):
        for letters in itertools.product("xyzw", repeat=2):
            line = "".join(letters)
            if "xyzw".index(letters[0]) < "xyzw".index(letters[1]):
                self.assertEqual(len(read(4, line)), 1)
            else:
                check_refused(self, NoText, read, 4, line)
        for line in ("wx", "x^2x", "xyx", "xzy", "xywz", "wz", "x^2y^2x^2", "zy^2", "xyzww"):
            check_refused(self, NoText, read, 4, line)

    def test_point_19_signs_and_blanks_at_wrong_places(self):
        for many in (2, 3, 4):
            for line in ("", " ", "  ", "-", "+", "- ", "+ ", " -x", "x ", " x", "x  + y", "x +  y", "x+y", "x+ y",
                         "x - -y", "--x", "-+x", "x - ", "x -", "x +", "+ x", "x y", "x + + y", "x - - y", "x + y +",
                         "x + y ", "x ^2", "x^ 2", "x^", "^2", "x^-2", "x^+2", "x^22", "x^2^2", "x2y", "2x3y", "x^0",
                         "xy2", "x*y", "2*x", "(x)", "x, y", "x = y", "1 2", "1 + 2 3", "x + y - ", "3 -", "-3-",
                         "1,000", "1.5", "1/2x", "--", "- - x", "x - + y"):
                check_refused(self, NoText, read, many, line)

    def test_point_19_terms_in_any_order(self):
        for lines in itertools.permutations(["x^2", "5xy", "2y", "7"]):
            self.assertEqual(read(2, " + ".join(lines)), [((2, 0), 1), ((1, 1), 5), ((0, 1), 2), ((0, 0), 7)])
            self.assertEqual(read(2, " + ".join(lines + lines)), [((2, 0), 2), ((1, 1), 10), ((0, 1), 4), ((0, 0), 14)])
            self.assertEqual(read(2, " + ".join(lines) + " - 5xy - 7"), [((2, 0), 1), ((0, 1), 2)])

    def test_point_19_long_texts(self):
        self.assertEqual(read(2, " + ".join(["x"] * 300)), [((1, 0), 300)])
        self.assertEqual(read(2, " - ".join(["x"] * 300)), [((1, 0), -298)])
        self.assertEqual(read(1, " + ".join(["9" * 60] * 19)), [((0,), 19 * SIXTY)])
        self.assertEqual(read(2, " + ".join(["x"] * 1000)), [((1, 0), 1000)])
        check_refused(self, NoText, read, 2, " + ".join(["x"] * 299) + " + 0")

    def test_point_19_bad_count_ahead_of_no_text(self):
        for bad in BAD_COUNTS:
            for line in ["", "0", "x", "yx", "x + 0", "z", "w"] + NO_TEXTS:
                check_refused(self, BadCount, read, bad, line)

    def test_point_4_a_refusal_changes_nothing(self):
        before = [read(2, line) for line in TEXTS]
        for line in NO_TEXTS + ["x + y + z", "3x - 0y"]:
            check_refused(self, NoText, read, 2, line)
        self.assertEqual([read(2, line) for line in TEXTS], before)

    def test_point_2_what_was_handed_in_and_told(self):
        for line in TEXTS:
            check_own(self, read, 2, line)


def figured(many):
    """A polynomial with the numbers 1, -1 and others at each powers."""
    numbers = (1, -1, 2, -10, SIXTY, -SIXTY, 1, 11, -1)
    return [(powers, numbers[place % 9]) for place, powers in enumerate(all_powers(many, 8))]


class Shown(Case):
    def test_point_19_written_out(self):
        self.assertEqual(shown(2, [((1, 1), 1)]), "xy")
        self.assertEqual(shown(2, [((2, 1), 3)]), "3x^2y")
        self.assertEqual(shown(2, [((1, 0), -1)]), "-x")
        self.assertEqual(shown(2, [((2, 0), -1), ((1, 1), 1), ((0, 1), -1), ((0, 0), 1)]), "-x^2 + xy - y + 1")
        self.assertEqual(shown(2, [((2, 0), 1), ((1, 1), -2), ((0, 1), 10), ((0, 0), -1)]), "x^2 - 2xy + 10y - 1")
        self.assertEqual(shown(4, [((2, 2, 2, 2), -11), ((0, 0, 0, 8), 1)]), "-11x^2y^2z^2w^2 + w^8")
        self.assertEqual(shown(4, [((1, 0, 0, 3), 1), ((0, 1, 1, 0), 5)]), "xw^3 + 5yz")
        self.assertEqual(shown(1, [((8,), 1), ((1,), -1)]), "x^8 - x")

    def test_point_19_none_and_a_number_alone(self):
        for many in (1, 2, 3, 4):
            self.assertEqual(shown(many, []), "0")
            for number in (1, -1, 2, 10, -10, SIXTY, -SIXTY):
                self.assertEqual(shown(many, [((0,) * many, number)]), f"{number}")

    def test_point_19_counts_of_any_length(self):
        for many in (1, 2, 3, 4):
            for figures in ("1" + "0" * 60, "9" * 61, "8" * 4000):
                self.assertEqual(shown(many, [((2,) + (0,) * (many - 1), int(figures))]), f"{figures}x^2")
                self.assertEqual(shown(many, [((2,) + (0,) * (many - 1), -int(figures)), ((0,) * many, -int(figures))]),
                                 f"-{figures}x^2 - {figures}")

    def test_point_19_as_the_tests_write(self):
        for many in (1, 2, 3, 4):
            somes = [[(powers, number)] for powers in all_powers(many, 8)[::3] for number in (1, -1, 25)]
            for some in somes + text_samples(many) + uneven_samples(many) + [figured(many)]:
                self.assertEqual(shown(many, some), written(some))

    def test_point_19_read_of_what_is_shown(self):
        for many in (1, 2, 3, 4):
            somes = [[(powers, number)] for powers in all_powers(many, 8) for number in (1, -1, 10, SIXTY, -SIXTY)]
            for some in somes + text_samples(many) + [figured(many)] + uneven_samples(many)[::5]:
                self.assertEqual(read(many, shown(many, some)), some)

    def test_point_19_shown_of_what_is_read(self):
        for line, text in {"0": "0", "1x": "x", "x + x": "2x", "x - x": "0", "y + x": "x + y", "-1": "-1",
                           "1 - x": "-x + 1", "y^2 - x^8 + 1xy": "-x^8 + xy + y^2", "5 - 6": "-1",
                           "5 - 4": "1"}.items():
            self.assertEqual(shown(2, read(2, line)), text)

    def test_points_3_and_19_what_was_told_beyond_60_figures(self):
        some = times(read(2, f"{SIXTY}x + {SIXTY}"), read(2, f"{SIXTY}y - {SIXTY}"))
        self.assertEqual(shown(2, some), written(some))
        check_refused(self, NoText, read, 2, shown(2, some))
        number = at(read(2, "x^8"), [SIXTY, 0])
        self.assertEqual(shown(2, [((1, 1), number)]), f"{SIXTY ** 8}xy")

    def test_point_19_bad_count(self):
        for bad in BAD_COUNTS:
            for some in [[], [((1,), 1)], one_of(2), even(3, row_numbers(3, (2, 3), 1)), [((1, 0), ENDLESS)]]:
                check_refused(self, BadCount, shown, bad, some)

    def test_point_4_a_refusal_changes_nothing(self):
        some = figured(2)
        before = shown(2, some)
        check_refused(self, BadCount, shown, 0, some)
        self.assertEqual(shown(2, some), before)

    def test_point_2_what_was_handed_in_and_told(self):
        for many in (1, 2, 3, 4):
            for some in [[], one_of(many), figured(many)]:
                check_own(self, shown, many, some)

    def test_nothing_is_refused_for_a_polynomial_somewhat_beyond_8(self):
        self.assertEqual(shown(2, [((9, 0), 2), ((5, 5), -1)]), "2x^9 - x^5y^5")


class Told(Case):
    def test_point_20_its_own_example(self):
        self.assertEqual(told([((3, 1), (2, 1)), ((2, 2), (-1, 2)), ((), (1, 1))]), "2[3,1] - 1/2[2,2] + []")

    def test_point_20_the_empty_telling(self):
        self.assertEqual(told([]), "0")

    def test_point_20_shares_at_the_first_place_and_behind_it(self):
        shares = {(1, 1): ("[2]", " + [1]"), (-1, 1): ("-[2]", " - [1]"), (2, 1): ("2[2]", " + 2[1]"),
                  (-2, 1): ("-2[2]", " - 2[1]"), (1, 2): ("1/2[2]", " + 1/2[1]"), (-1, 2): ("-1/2[2]", " - 1/2[1]"),
                  (11, 10): ("11/10[2]", " + 11/10[1]"), (-7, 3): ("-7/3[2]", " - 7/3[1]"),
                  (SIXTY, 1): (f"{SIXTY}[2]", f" + {SIXTY}[1]"),
                  (-1, 10 ** 59): (f"-1/{10 ** 59}[2]", f" - 1/{10 ** 59}[1]")}
        for one, other in itertools.product(shares, repeat=2):
            self.assertEqual(told([((2,), one)]), shares[one][0])
            self.assertEqual(told([((2,), one), ((1,), other)]), shares[one][0] + shares[other][1])

    def test_point_20_the_empty_row(self):
        for share, text in (((1, 1), "[]"), ((-1, 1), "-[]"), ((5, 1), "5[]"), ((1, 3), "1/3[]"), ((-4, 3), "-4/3[]")):
            self.assertEqual(told([((), share)]), text)

    def test_point_20_each_row(self):
        for row in rows_within(8):
            numbers = ",".join(f"{number}" for number in row)
            self.assertEqual(told([(row, (1, 1))]), f"[{numbers}]")
            self.assertEqual(told([(row, (-3, 4))]), f"-3/4[{numbers}]")

    def test_point_20_as_the_tests_write(self):
        for many in (1, 2, 3, 4):
            for some in text_samples(many):
                for telling in (by_power(many, some), shared(by_exchange(many, some))):
                    self.assertEqual(told(telling), written_telling(telling))

    def test_points_19_and_20_numbers_of_4000_figures(self):
        long = int("7" * 4000)
        self.assertEqual(told([((1,), (-long, 2)), ((), (1, long))]), f"-{long}/2[1] + 1/{long}[]")

    def test_point_7_bad_row(self):
        for bad in BAD_ROWS:
            for ahead, behind in (([], []), ([((8,), (1, 1))], [((), (2, 1))]), ([], [((1, 1), (-3, 2))])):
                check_refused(self, BadRow, told, ahead + [(bad, (SIXTY, 7))] + behind)
            self.assertEqual(told([((2,), (3, 1)), ((1,), (1, 1))]), "3[2] + [1]")

    def test_point_2_what_was_handed_in_and_told(self):
        check_own(self, told, [])
        check_own(self, told, [((3, 1), (2, 1)), ((2, 2), (-1, 2)), ((), (1, 1))])
