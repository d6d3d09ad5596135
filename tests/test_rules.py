"""Promise [3], and [1] as far as it speaks of rules."""

import inspect
import math
import unittest
from fractions import Fraction

from seatweave.errors import BadLine, BadRule, NoTable, NoVotes
from seatweave.rules import Between, Down, Half, Rule

HAIR = Fraction(1, 10 ** 15)
NUMBERS = (1, 2, 3, 4, 10, 57, 150, 299, 300, 301)
PARTS = ((1, 1), (1, 1000), (1000, 1000), (1, 2), (2, 4), (2, 3), (2, 5), (400, 1000), (999, 1000), (1, 3))


def rules():
    """Each rule with the part that [3] gives it."""
    found = [(Down(), Fraction(1)), (Half(), Fraction(1, 2))]
    return found + [(Between(p, q), Fraction(p, q)) for p, q in PARTS]


def pair(fraction):
    return (fraction.numerator, fraction.denominator)


class Marks(unittest.TestCase):
    def test_written_out(self):
        for rule, wanted in (
            (Down(), {1: (1, 1), 2: (2, 1), 3: (3, 1), 300: (300, 1), 301: (301, 1)}),
            (Half(), {1: (1, 2), 2: (3, 2), 3: (5, 2), 300: (599, 2), 301: (601, 2)}),
            (Between(1, 1), {1: (1, 1), 2: (2, 1), 301: (301, 1)}),
            (Between(1000, 1000), {1: (1, 1), 2: (2, 1), 301: (301, 1)}),
            (Between(1, 1000), {1: (1, 1000), 2: (1001, 1000), 301: (300001, 1000)}),
            (Between(1, 2), {1: (1, 2), 2: (3, 2), 301: (601, 2)}),
            (Between(2, 4), {1: (1, 2), 2: (3, 2), 301: (601, 2)}),
            (Between(2, 3), {1: (2, 3), 2: (5, 3), 301: (902, 3)}),
            (Between(400, 1000), {1: (2, 5), 2: (7, 5), 301: (1502, 5)}),
        ):
            for n, mark in wanted.items():
                with self.subTest(rule=type(rule).__name__, n=n):
                    self.assertEqual(rule.mark(n), mark)

    def test_each_is_a_ratio_in_least_numbers(self):
        for rule, part in rules():
            for n in range(1, 302):
                mark = rule.mark(n)
                self.assertIs(type(mark), tuple)
                self.assertEqual([type(number) for number in mark], [int, int])
                self.assertGreater(mark[1], 0)
                self.assertEqual(math.gcd(mark[0], mark[1]), 1)
                self.assertEqual(Fraction(mark[0], mark[1]), part + n - 1)

    def test_beyond_the_seats_of_a_table(self):
        for rule, part in rules():
            for n in (302, 401, 1000, 10 ** 12):
                self.assertEqual(rule.mark(n), pair(part + n - 1))


class Fits(unittest.TestCase):
    def assert_fits_just(self, rule, share, wanted, near):
        for n in range(max(0, near - 3), near + 4):
            with self.subTest(rule=type(rule).__name__, share=share, n=n):
                self.assertIs(rule.fits(pair(share), n), n in wanted)

    def test_at_a_mark_both_numbers_go(self):
        for rule, part in rules():
            for n in NUMBERS:
                self.assert_fits_just(rule, part + n - 1, (n - 1, n), n)

    def test_just_below_a_mark_the_lower_goes(self):
        for rule, part in rules():
            for n in NUMBERS:
                self.assert_fits_just(rule, part + n - 1 - HAIR, (n - 1,), n)

    def test_just_above_a_mark_the_upper_goes(self):
        for rule, part in rules():
            for n in NUMBERS:
                self.assert_fits_just(rule, part + n - 1 + HAIR, (n,), n)

    def test_nought_has_no_mark_to_be_reached(self):
        for rule, part in rules():
            for share in (Fraction(0), HAIR, part / 2, part - HAIR):
                self.assert_fits_just(rule, share, (0,), 0)
            self.assert_fits_just(rule, part, (0, 1), 0)
            self.assert_fits_just(rule, part + HAIR, (1,), 0)

    def test_a_share_far_off(self):
        for rule, part in rules():
            for n in (0, 1, 2, 150, 300):
                self.assertIs(rule.fits((10 ** 12, 1), n), False)
                self.assertIs(rule.fits((10 ** 12 + 1, 7), n), False)
            for n in (1, 2, 150, 300):
                self.assertIs(rule.fits((0, 1), n), False)
                self.assertIs(rule.fits((1, 10 ** 12), n), False)
            self.assertIs(rule.fits(pair(part + 10 ** 12 - HAIR), 10 ** 12), True)

    def test_written_out(self):
        for rule, share, wanted in (
            (Down(), (1, 2), (0,)), (Down(), (1, 1), (0, 1)), (Down(), (3, 2), (1,)), (Down(), (2, 1), (1, 2)),
            (Half(), (1, 3), (0,)), (Half(), (1, 2), (0, 1)), (Half(), (1, 1), (1,)), (Half(), (3, 2), (1, 2)),
            (Between(2, 5), (1, 3), (0,)), (Between(2, 5), (2, 5), (0, 1)), (Between(2, 5), (7, 5), (1, 2)),
            (Between(1, 1000), (1, 1000), (0, 1)), (Between(1, 1000), (1, 1), (1,)),
            (Between(1000, 1000), (999, 1000), (0,)), (Between(1000, 1000), (1, 1), (0, 1)),
        ):
            for n in range(5):
                with self.subTest(rule=type(rule).__name__, share=share, n=n):
                    self.assertIs(rule.fits(share, n), n in wanted)


class Kinds(unittest.TestCase):
    def test_each_is_a_rule_and_of_its_own_kind_alone(self):
        kinds = (Down, Half, Between)
        for rule, own in ((Down(), Down), (Half(), Half), (Between(1, 1), Between), (Between(1, 2), Between)):
            self.assertIsInstance(rule, Rule)
            self.assertIs(type(rule), own)
            self.assertEqual([kind for kind in kinds if isinstance(rule, kind)], [own])
            self.assertEqual(own.__mro__, (own, Rule, object))

    def test_rule_has_both_methods(self):
        self.assertEqual(list(inspect.signature(Rule.mark).parameters), ["self", "n"])
        self.assertEqual(list(inspect.signature(Rule.fits).parameters), ["self", "share", "n"])

    def test_arguments_are_called_as_in_the_interface(self):
        self.assertEqual(list(inspect.signature(Down).parameters), [])
        self.assertEqual(list(inspect.signature(Half).parameters), [])
        self.assertEqual(list(inspect.signature(Between).parameters), ["p", "q"])


class Refused(unittest.TestCase):
    def assert_refused(self, p, q):
        with self.subTest(p=p, q=q):
            with self.assertRaises(BadRule) as taken:
                Between(p, q)
            self.assertIs(type(taken.exception), BadRule)
            self.assertNotIsInstance(taken.exception, (NoVotes, BadLine, NoTable))

    def test_numbers_beyond_the_bounds(self):
        for p, q in (
            (0, 1), (0, 1000), (0, 0), (-1, 1), (-1, 2), (-1000, 1000), (-10 ** 20, 5), (1, 0), (5, 0),
            (1, -1), (-1, -1), (-2, -1), (-1, -2), (2, 1), (1000, 999), (1001, 1000), (10 ** 20, 1),
            (1, 1001), (1001, 1001), (1000, 1001), (500, 1001), (1, 10 ** 20), (2000, 4000),
        ):
            self.assert_refused(p, q)

    def test_no_whole_numbers(self):
        for wrong in ("1", "", "p", None, [], [1], (), (1,), (1, 2), True, False, {}, 1.0, 0.5):
            for right in (1, 2, 1000):
                self.assert_refused(wrong, right)
                self.assert_refused(right, wrong)
            self.assert_refused(wrong, 0)
            self.assert_refused(0, wrong)
            self.assert_refused(1001, wrong)
            self.assert_refused(wrong, wrong)
        self.assert_refused(None, "1")
        self.assert_refused(True, False)
        self.assert_refused([1], (1,))

    def test_the_outermost_that_are_not_refused(self):
        for p, q in ((1, 1), (1, 1000), (999, 1000), (1000, 1000), (999, 999)):
            self.assertEqual(Between(p, q).mark(1), pair(Fraction(p, q)))


class Told(unittest.TestCase):
    def test_what_is_told_is_new(self):
        for rule, part in rules():
            for n in (1, 2, 301):
                self.assertEqual(rule.mark(n), rule.mark(n))
                self.assertIsNot(rule.mark(n), rule.mark(n))

    def test_asking_changes_nothing(self):
        for rule, part in rules():
            before = dict(vars(rule))
            first = [(rule.mark(n), rule.fits((7, 2), n)) for n in range(1, 20)]
            again = [(rule.mark(n), rule.fits((7, 2), n)) for n in range(1, 20)]
            self.assertEqual(first, again)
            self.assertEqual(vars(rule), before)

    def test_rules_are_apart(self):
        one, other = Between(1, 3), Between(2, 3)
        self.assertEqual((one.mark(1), other.mark(1)), ((1, 3), (2, 3)))
        self.assertEqual((Down().mark(1), Half().mark(1)), ((1, 1), (1, 2)))


if __name__ == "__main__":
    unittest.main()
