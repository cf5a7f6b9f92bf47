import inspect
import itertools
import unittest

from evenform import polys
from evenform.errors import BadCount, BadPowers, TooGreat
from evenform.polys import at, exchanged, less, made, plus, times
from support import ENDLESS, SIXTY, Case, all_powers, changed, check_own, check_refused, one_of


def sample(many, most, seed):
    """A polynomial with a good half of all its powers, with numbers from -4 to 4."""
    some = []
    for powers in all_powers(many, most):
        seed = (seed * 137 + 71) % 1009
        if seed % 9 != 4 and seed % 5 > 1:
            some.append((powers, seed % 9 - 4))
    return some


def samples(many):
    return [[], sample(many, 0, 3), sample(many, 1, 8), sample(many, 2, 6), sample(many, 3, 1), sample(many, 4, 2)]


def points(many):
    return [list(point) for point in itertools.product((-3, 0, 1, 2), repeat=many)] + [[SIXTY, -SIXTY, 7, 0][:many]]


class Interface(unittest.TestCase):
    def test_names_and_arguments(self):
        told = {"made": ["many", "terms"], "plus": ["one", "other"], "less": ["one", "other"],
                "times": ["one", "other"], "at": ["some", "point"], "exchanged": ["some", "place"]}
        for name, arguments in told.items():
            self.assertEqual(list(inspect.signature(getattr(polys, name)).parameters), arguments)


class Made(Case):
    def test_point_5_no_terms(self):
        for many in (1, 2, 3, 4):
            self.assertEqual(made(many, []), [])

    def test_point_5_like_powers_are_added_up(self):
        terms = [((1, 0), 2), ((0, 1), 5), ((1, 0), 3), ((1, 0), -1)]
        self.assertEqual(made(2, terms), [((1, 0), 4), ((0, 1), 5)])

    def test_point_5_any_order(self):
        terms = [((0, 0, 2), 1), ((2, 0, 0), -3), ((0, 2, 0), 2), ((2, 0, 0), 1)]
        for order in itertools.permutations(terms):
            self.assertEqual(made(3, list(order)), [((2, 0, 0), -2), ((0, 2, 0), 2), ((0, 0, 2), 1)])

    def test_point_5_numbers_of_0_and_such_as_cancel_out(self):
        self.assertEqual(made(2, [((1, 1), 0)]), [])
        self.assertEqual(made(2, [((1, 1), 7), ((2, 0), 1), ((1, 1), -7), ((0, 0), 0)]), [((2, 0), 1)])
        self.assertEqual(made(1, [((3,), 1), ((3,), 1), ((3,), -2)]), [])
        self.assertEqual(made(1, [((3,), 1), ((3,), -1), ((3,), 2)]), [((3,), 2)])

    def test_point_5_greater_powers_first(self):
        terms = [((0, 8), 1), ((1, 0), 1), ((0, 0), 1), ((1, 7), 1), ((2, 0), 1)]
        told = [powers for powers, _ in made(2, terms)]
        self.assertEqual(told, [(2, 0), (1, 7), (1, 0), (0, 8), (0, 0)])
        for many in (1, 2, 3, 4):
            powers = all_powers(many, 8)
            told = made(many, [(each, 1) for each in reversed(powers)])
            self.assertEqual(told, [(each, 1) for each in powers])
            self.assert_form(many, told)

    def test_point_5_numbers_of_sixty_figures(self):
        terms = [((2, 0), SIXTY), ((0, 2), -SIXTY), ((2, 0), SIXTY), ((0, 2), -1), ((1, 1), SIXTY), ((1, 1), -SIXTY)]
        self.assertEqual(made(2, terms), [((2, 0), 2 * SIXTY), ((0, 2), -SIXTY - 1)])

    def test_point_5_five_hundred_terms(self):
        self.assertEqual(made(1, [((k % 9,), 1) for k in range(500)]), [((k,), 55 + (k < 5)) for k in range(8, -1, -1)])

    def test_point_5_what_was_told_may_be_handed_in_again(self):
        for many in (1, 2, 3, 4):
            for some in samples(many):
                self.assertEqual(made(many, some), some)
        self.assertEqual(made(1, [((1,), ENDLESS), ((1,), 1)]), [((1,), ENDLESS + 1)])

    def test_point_5_bad_count(self):
        for many in (0, 5, -1, 6, -4, 500, SIXTY, -SIXTY, ENDLESS, -ENDLESS):
            check_refused(self, BadCount, made, many, [])
        check_refused(self, BadCount, made, 5, [((1, 0, 0, 0, 0), 1)])
        check_refused(self, BadCount, made, 0, [((), 1)])

    def test_point_5_bad_count_ahead_of_bad_powers(self):
        for many in (0, 5, -1, SIXTY):
            for powers in ((1, 0), (-1, 0), (9,), (), (0, 0, 0, 0, 9)):
                check_refused(self, BadCount, made, many, [(powers, 1)])

    def test_point_5_bad_powers(self):
        for many in (1, 2, 3, 4):
            for bad in bad_powers(many):
                for number in (1, -2, 0, SIXTY):
                    check_refused(self, BadPowers, made, many, [(bad, number)])

    def test_point_5_bad_powers_at_any_place(self):
        for many in (1, 2, 3, 4):
            good = [(powers, 1) for powers in all_powers(many, 2)]
            for bad in bad_powers(many):
                for place in range(len(good) + 1):
                    for number in (3, 0):
                        terms = good[:place] + [(bad, number)] + good[place:]
                        check_refused(self, BadPowers, made, many, terms)

    def test_point_5_bad_powers_that_cancel_out(self):
        check_refused(self, BadPowers, made, 2, [((9, 0), 1), ((9, 0), -1)])

    def test_point_5_just_8_together_is_no_refusal(self):
        for many in (1, 2, 3, 4):
            for powers in all_powers(many, 8):
                if sum(powers) == 8:
                    self.assertEqual(made(many, [(powers, 5)]), [(powers, 5)])

    def test_point_2_what_was_handed_in_and_told(self):
        check_own(self, made, 2, [((1, 0), 2), ((0, 1), 5), ((1, 0), 3)])
        check_own(self, made, 2, [((1, 0), 2), ((0, 1), 5)])
        check_own(self, made, 3, [])

    def test_point_4_a_refusal_changes_nothing(self):
        terms = [((1, 0), 2), ((1, 0), 3)]
        for refused in ((0, terms), (2, terms + [((0, 9), 1)]), (2, [((1, 0), 5), ((1,), 1)])):
            with self.assertRaises(ValueError):
                made(*refused)
            self.assertEqual(made(2, terms), [((1, 0), 5)])
            self.assertEqual(made(2, []), [])


def bad_powers(many):
    """Powers that are refused for so many unknowns: length, below 0, more than 8 together."""
    nought = (0,) * many
    bad = [nought[1:], nought + (0,), nought + (1, 2), ()]
    for place in range(many):
        before, behind = nought[:place], nought[place + 1:]
        bad += [before + (power,) + behind for power in (-1, -SIXTY, 9, 10, SIXTY, ENDLESS, -ENDLESS)]
        if many > 1:
            bad.append((1,) + (0,) * (many - 2) + (8,))
            bad.append((8,) + (0,) * (many - 2) + (-1,))
            bad.append((9,) + (0,) * (many - 2) + (-1,))
            bad.append((-1,) + (0,) * (many - 2) + (1,))
    return bad


class Sums(Case):
    def test_point_6_plus(self):
        one, other = [((2, 0), 1), ((1, 1), 3)], [((1, 1), -1), ((0, 0), 4)]
        self.assertEqual(plus(one, other), [((2, 0), 1), ((1, 1), 2), ((0, 0), 4)])

    def test_point_6_less(self):
        one, other = [((2, 0), 1), ((1, 1), 3)], [((1, 1), -1), ((0, 0), 4)]
        self.assertEqual(less(one, other), [((2, 0), 1), ((1, 1), 4), ((0, 0), -4)])
        self.assertEqual(less(other, one), [((2, 0), -1), ((1, 1), -4), ((0, 0), 4)])

    def test_point_6_numbers_that_cancel_out(self):
        one, other = [((2, 0), 1), ((1, 1), 3)], [((2, 0), -1), ((0, 2), 2)]
        self.assertEqual(plus(one, other), [((1, 1), 3), ((0, 2), 2)])
        self.assertEqual(less(one, [((1, 1), 3)]), [((2, 0), 1)])
        self.assertEqual(plus([((1,), SIXTY)], [((1,), -SIXTY)]), [])
        self.assertEqual(less([((1,), SIXTY)], [((1,), -SIXTY)]), [((1,), 2 * SIXTY)])

    def test_point_6_empty_one_and_itself(self):
        for many in (1, 2, 3, 4):
            for some in samples(many):
                self.assertEqual(plus(some, []), some)
                self.assertEqual(plus([], some), some)
                self.assertEqual(less(some, []), some)
                self.assertEqual(less([], some), [(powers, -number) for powers, number in some])
                self.assertEqual(plus(some, some), [(powers, 2 * number) for powers, number in some])
                self.assertEqual(less(some, some), [])
                self.assertEqual(less(plus(some, one_of(many)), one_of(many)), some)

    def test_point_6_against_numbers_of_each_powers(self):
        for many in (1, 2, 3, 4):
            for one, other in itertools.product(samples(many), repeat=2):
                left, right = dict(one), dict(other)
                both = [(powers, left.get(powers, 0), right.get(powers, 0)) for powers in all_powers(many, 8)]
                self.assertEqual(plus(one, other), [(p, a + b) for p, a, b in both if a + b != 0])
                self.assertEqual(less(one, other), [(p, a - b) for p, a, b in both if a - b != 0])

    def test_point_2_what_was_handed_in_and_told(self):
        for function in (plus, less):
            check_own(self, function, [((2, 0), 1), ((1, 1), 3)], [((1, 1), -1), ((0, 0), 4)])
            check_own(self, function, [((2, 0), 1), ((1, 1), 3)], [])
            check_own(self, function, [], [((2, 0), 1), ((1, 1), 3)])
            check_own(self, function, [], [])
            same = sample(2, 3, 1)
            kept = list(same)
            told = function(same, same)
            self.assertEqual(same, kept)
            changed(told)
            self.assertEqual(same, kept)


class Products(Case):
    def test_point_6_times(self):
        one, other = [((1, 0), 1), ((0, 1), 1)], [((1, 0), 2), ((0, 0), -3)]
        told = [((2, 0), 2), ((1, 1), 2), ((1, 0), -3), ((0, 1), -3)]
        self.assertEqual(times(one, other), told)
        self.assertEqual(times(other, one), told)

    def test_point_6_numbers_that_cancel_out(self):
        one, other = [((1, 0), 1), ((0, 1), 1)], [((1, 0), 1), ((0, 1), -1)]
        self.assertEqual(times(one, other), [((2, 0), 1), ((0, 2), -1)])
        self.assertEqual(times([((1,), SIXTY), ((0,), 1)], [((1,), -SIXTY), ((0,), 1)]),
                         [((2,), -SIXTY * SIXTY), ((0,), 1)])

    def test_point_6_empty_one_and_itself(self):
        for many in (1, 2, 3, 4):
            for some in samples(many):
                self.assertEqual(times(some, []), [])
                self.assertEqual(times([], some), [])
                self.assertEqual(times(some, one_of(many)), some)
                self.assertEqual(times(one_of(many), some), some)
                self.assert_form(many, times(some, some))
        self.assertEqual(times([((1, 0), 1), ((0, 1), 1)], [((1, 0), 1), ((0, 1), 1)]),
                         [((2, 0), 1), ((1, 1), 2), ((0, 2), 1)])

    def test_point_6_against_numbers_of_each_powers(self):
        for many in (1, 2, 3, 4):
            for one, other in itertools.product(samples(many), repeat=2):
                total = dict.fromkeys(all_powers(many, 8), 0)
                for (left, often), (right, more) in itertools.product(one, other):
                    total[tuple(a + b for a, b in zip(left, right))] += often * more
                told = times(one, other)
                self.assertEqual(told, [(powers, number) for powers, number in total.items() if number != 0])
                self.assert_form(many, told)

    def test_point_6_just_8_together(self):
        for many in (1, 2, 3, 4):
            for weight in range(9):
                one, other = [((weight,) + (0,) * (many - 1), 3)], [((0,) * (many - 1) + (8 - weight,), -2)]
                powers = tuple(a + b for a, b in zip(one[0][0], other[0][0]))
                self.assertEqual(times(one, other), [(powers, -6)])
                self.assertEqual(times(other, one), [(powers, -6)])

    def test_point_6_more_than_8_together(self):
        for many in (1, 2, 3, 4):
            for weight in range(1, 9):
                one, other = [((weight,) + (0,) * (many - 1), 3)], [((0,) * (many - 1) + (9 - weight,), -2)]
                check_refused(self, TooGreat, times, one, other)
                check_refused(self, TooGreat, times, other, one)
                check_refused(self, TooGreat, times, plus(one, one_of(many)), plus(other, one_of(many)))
        check_refused(self, TooGreat, times, [((8,), 1)], [((8,), 1)])

    def test_point_6_too_great_at_any_place(self):
        # Here the terms with the most together stand neither first nor last.
        one, other = [((2, 0), 1), ((0, 5), 1), ((0, 0), 1)], [((1, 0), 1), ((0, 4), 1), ((0, 1), 1)]
        check_refused(self, TooGreat, times, one, other)
        check_refused(self, TooGreat, times, other, one)
        self.assertEqual(len(times(one, less(other, [((0, 4), 1)]))), 6)

    def test_point_6_too_great_where_the_great_terms_cancel_out(self):
        # (x + y)(x^8 - x^7 y + ..) has terms of 9 together that cancel out: refused all the same.
        one = [((1, 0), 1), ((0, 1), 1)]
        other = [((8 - k, k), (-1) ** k) for k in range(9)]
        check_refused(self, TooGreat, times, one, other)

    def test_point_6_empty_one_is_never_too_great(self):
        self.assertEqual(times([((8,), 1)], []), [])
        self.assertEqual(times([], [((8,), 1)]), [])

    def test_point_2_what_was_handed_in_and_told(self):
        check_own(self, times, [((2, 0), 1), ((1, 1), 3)], [((1, 1), -1), ((0, 0), 4)])
        check_own(self, times, [((2, 0), 1), ((1, 1), 3)], one_of(2))
        check_own(self, times, one_of(2), [((2, 0), 1), ((1, 1), 3)])
        check_own(self, times, [], [((2, 0), 1)])
        same = sample(2, 3, 1)
        kept = list(same)
        changed(times(same, same))
        self.assertEqual(same, kept)

    def test_point_4_a_refusal_changes_nothing(self):
        one, other = [((5, 0), 1), ((0, 1), 2)], [((4, 0), 1), ((0, 1), 2)]
        check_refused(self, TooGreat, times, one, other)
        self.assertEqual(times(one, one_of(2)), one)
        self.assertEqual(times([((0, 1), 2)], other), [((4, 1), 2), ((0, 2), 4)])
        self.assertEqual(plus(one, []), one)


class At(Case):
    def test_point_6_at(self):
        self.assertEqual(at([((2, 1), 3), ((0, 1), -2), ((0, 0), 5)], [2, 7]), 3 * 4 * 7 - 2 * 7 + 5)
        self.assertEqual(at([((1, 0), 1)], [2, 7]), 2)
        self.assertEqual(at([((0, 1), 1)], [2, 7]), 7)

    def test_point_6_empty_one(self):
        for many in (1, 2, 3, 4):
            self.assertEqual(at([], [3] * many), 0)

    def test_point_6_powers_of_0_at_points_of_0(self):
        for many in (1, 2, 3, 4):
            self.assertEqual(at([((0,) * many, 6)], [0] * many), 6)
            self.assertEqual(at([((0,) * many, 6)], [-5] * many), 6)
        self.assertEqual(at([((3, 0), 2), ((0, 0), 1)], [0, 0]), 1)
        self.assertEqual(at([((3, 0), 2)], [2, 0]), 16)

    def test_point_6_points_below_0(self):
        self.assertEqual(at([((3, 0), 2), ((0, 2), 1)], [-2, -3]), -16 + 9)
        self.assertEqual(at([((8,), 1)], [-SIXTY]), SIXTY ** 8)
        self.assertEqual(at([((7,), -SIXTY)], [-SIXTY]), SIXTY ** 8)

    def test_point_6_against_reckoning(self):
        for many in (1, 2, 3, 4):
            for some in samples(many):
                for point in points(many):
                    due = 0
                    for powers, number in some:
                        for power, value in zip(powers, point):
                            number *= value ** power
                        due += number
                    self.assertEqual(at(some, point), due)

    def test_point_6_sums_and_products_at_a_point(self):
        for many in (1, 2, 3, 4):
            for one, other in itertools.product(samples(many), repeat=2):
                for point in points(many)[::5]:
                    self.assertEqual(at(plus(one, other), point), at(one, point) + at(other, point))
                    self.assertEqual(at(less(one, other), point), at(one, point) - at(other, point))
                    self.assertEqual(at(times(one, other), point), at(one, point) * at(other, point))

    def test_point_2_what_was_handed_in(self):
        check_own(self, at, [((2, 1), 3), ((0, 1), -2)], [2, 7])


class Exchanged(Case):
    def test_point_6_exchanged_at_each_place(self):
        some = [((3, 2, 1, 0), 5), ((1, 1, 1, 1), 2), ((0, 0, 2, 4), -7)]
        self.assertEqual(exchanged(some, 0), [((2, 3, 1, 0), 5), ((1, 1, 1, 1), 2), ((0, 0, 2, 4), -7)])
        self.assertEqual(exchanged(some, 1), [((3, 1, 2, 0), 5), ((1, 1, 1, 1), 2), ((0, 2, 0, 4), -7)])
        self.assertEqual(exchanged(some, 2), [((3, 2, 0, 1), 5), ((1, 1, 1, 1), 2), ((0, 0, 4, 2), -7)])

    def test_point_6_greater_powers_first_again(self):
        self.assertEqual(exchanged([((2, 0), 1), ((1, 3), 2), ((0, 4), 3)], 0),
                         [((4, 0), 3), ((3, 1), 2), ((0, 2), 1)])

    def test_point_6_exchanged_twice_and_at_a_point(self):
        for many in (2, 3, 4):
            for some in samples(many) + [[(powers, sum(powers) + 1) for powers in all_powers(many, 8)]]:
                for place in range(many - 1):
                    told = exchanged(some, place)
                    self.assert_form(many, told)
                    self.assertEqual(exchanged(told, place), some)
                    for point in points(many)[::7]:
                        swapped = list(point)
                        swapped[place], swapped[place + 1] = point[place + 1], point[place]
                        self.assertEqual(at(told, swapped), at(some, point))

    def test_point_6_empty_one(self):
        self.assertEqual(exchanged([], 0), [])

    def test_point_2_what_was_handed_in_and_told(self):
        check_own(self, exchanged, [((2, 1), 3), ((0, 1), -2)], 0)
        check_own(self, exchanged, [((1, 1), 3)], 0)
        check_own(self, exchanged, [], 0)
