import unittest

import evenform.errors as errors

PLAIN = ("BadCount", "BadPowers", "TooGreat", "BadRow", "UnlikeWeights", "TooLong",
         "NoKind", "NoText", "NoLine", "BadName", "NoName")
FIELDED = ("Uneven", "NotBy")


class Errors(unittest.TestCase):
    def test_point_4_even_error_stands_straight_beneath_value_error(self):
        self.assertEqual(errors.EvenError.__bases__, (ValueError,))

    def test_point_4_each_refusal_stands_straight_beneath_even_error(self):
        for name in PLAIN + FIELDED:
            with self.subTest(name):
                self.assertEqual(getattr(errors, name).__bases__, (errors.EvenError,))

    def test_point_4_no_refusal_stands_beneath_another_one(self):
        classes = [getattr(errors, name) for name in PLAIN + FIELDED]
        for one in classes:
            for other in classes:
                self.assertEqual(issubclass(one, other), one is other)

    def test_there_are_no_other_classes_and_each_bears_its_name(self):
        there = {name: value for name, value in vars(errors).items() if isinstance(value, type)}
        self.assertEqual(sorted(there), sorted(PLAIN + FIELDED + ("EvenError",)))
        for name, value in there.items():
            self.assertEqual(value.__name__, name)

    def test_plain_refusals_have_no_fields(self):
        for name in PLAIN:
            with self.subTest(name):
                self.assertEqual(vars(getattr(errors, name)("words")), {})

    def test_uneven_has_place_and_powers(self):
        refusal = errors.Uneven(1, (0, 2, 1))
        self.assertEqual(vars(refusal), {"place": 1, "powers": (0, 2, 1)})
        self.assertNotEqual(str(refusal), "")

    def test_not_by_has_row(self):
        refusal = errors.NotBy((3, 1))
        self.assertEqual(vars(refusal), {"row": (3, 1)})
        self.assertNotEqual(str(refusal), "")
