"""Promise [2], and [1] as far as it speaks of ratios."""

import inspect
import math
import unittest

from seatweave import ratios
from seatweave.ratios import below, over, ratio, times

MILLION = 1000000
LARGE = MILLION * MILLION


class RatioCase(unittest.TestCase):
    def assert_ratio(self, value):
        self.assertIs(type(value), tuple)
        self.assertEqual(len(value), 2)
        self.assertIs(type(value[0]), int)
        self.assertIs(type(value[1]), int)
        self.assertGreaterEqual(value[0], 0)
        self.assertGreater(value[1], 0)
        self.assertEqual(math.gcd(value[0], value[1]), 1)


def sample():
    found = [ratio(a, b) for a in range(0, 13) for b in range(1, 13)]
    found += [ratio(LARGE, 1), ratio(1, LARGE), ratio(LARGE - 1, LARGE), ratio(LARGE, LARGE - 1)]
    found += [ratio(LARGE + 39, LARGE * 17), ratio(6 ** 40, 10 ** 31), ratio(0, LARGE)]
    return sorted(set(found))


class Made(RatioCase):
    def test_written_out(self):
        for a, b, wanted in (
            (1, 1, (1, 1)), (1, 2, (1, 2)), (2, 1, (2, 1)), (2, 4, (1, 2)), (4, 2, (2, 1)),
            (6, 4, (3, 2)), (4, 6, (2, 3)), (9, 3, (3, 1)), (3, 9, (1, 3)), (35, 21, (5, 3)),
            (7, 7, (1, 1)), (1000, 1000, (1, 1)), (8, 9, (8, 9)), (12, 18, (2, 3)),
        ):
            with self.subTest(a=a, b=b):
                self.assertEqual(ratio(a, b), wanted)

    def test_small_pairs_are_in_least_numbers_and_of_the_same_worth(self):
        for a in range(0, 61):
            for b in range(1, 61):
                value = ratio(a, b)
                self.assert_ratio(value)
                self.assertEqual(value[0] * b, a * value[1])

    def test_nought_is_one_pair_whatever_stands_below(self):
        for b in (1, 2, 3, 10, 97, 1000, MILLION, LARGE, LARGE * LARGE):
            self.assertEqual(ratio(0, b), (0, 1))
            self.assert_ratio(ratio(0, b))

    def test_multiples(self):
        for a in (1, 2, 3, 12, 97, 1000, LARGE + 1):
            for k in (1, 2, 5, 64, 1001, LARGE):
                self.assertEqual(ratio(a * k, a), (k, 1))
                self.assertEqual(ratio(a, a * k), (1, k))

    def test_told_in_other_numbers_told_alike(self):
        for a, b in ((1, 2), (2, 3), (3, 2), (5, 12), (1, 1), (999, 1000), (LARGE, LARGE + 1)):
            for k in (1, 2, 3, 6, 30, 1000, MILLION, LARGE, LARGE * LARGE):
                self.assertEqual(ratio(a * k, b * k), (a, b))

    def test_large_numbers(self):
        self.assertEqual(ratio(LARGE, MILLION), (MILLION, 1))
        self.assertEqual(ratio(LARGE - 1, LARGE), (LARGE - 1, LARGE))
        self.assertEqual(ratio(10 ** 60, 4 * 10 ** 50), (10 ** 10 // 4, 1))
        self.assertEqual(ratio(2 ** 300, 6 ** 200), (2 ** 100, 3 ** 200))
        for a in range(LARGE - 20, LARGE + 20):
            for b in range(MILLION * 999 - 6, MILLION * 999 + 6):
                value = ratio(a, b)
                self.assert_ratio(value)
                self.assertEqual(value[0] * b, a * value[1])

    def test_numbers_that_take_the_most_steps_to_reduce(self):
        a, b = 1, 1
        for step in range(1500):
            a, b = a + b, a
        self.assertEqual(ratio(a, b), (a, b))
        self.assertEqual(ratio(b, a), (b, a))
        self.assertEqual(ratio(a * 6, b * 6), (a, b))


class Reckoned(RatioCase):
    def test_times_against_numbers_multiplied_across(self):
        for one in sample():
            for other in sample():
                value = times(one, other)
                self.assert_ratio(value)
                self.assertEqual(value[0] * one[1] * other[1], value[1] * one[0] * other[0])

    def test_over_against_numbers_multiplied_across(self):
        for one in sample():
            for other in sample():
                if other[0] == 0:
                    continue
                value = over(one, other)
                self.assert_ratio(value)
                self.assertEqual(value[0] * one[1] * other[0], value[1] * one[0] * other[1])

    def test_times_written_out(self):
        for one, other, wanted in (
            ((1, 2), (2, 3), (1, 3)), ((2, 3), (3, 2), (1, 1)), ((5, 1), (1, 10), (1, 2)),
            ((3, 4), (1, 1), (3, 4)), ((7, 5), (7, 5), (49, 25)),
        ):
            self.assertEqual(times(one, other), wanted)
            self.assertEqual(times(other, one), wanted)

    def test_over_written_out(self):
        for one, other, wanted in (
            ((1, 2), (2, 3), (3, 4)), ((2, 3), (1, 2), (4, 3)), ((5, 1), (10, 1), (1, 2)),
            ((3, 4), (1, 1), (3, 4)), ((1, 1), (3, 4), (4, 3)), ((7, 5), (7, 5), (1, 1)),
        ):
            self.assertEqual(over(one, other), wanted)

    def test_nought(self):
        for other in ((1, 1), (1, 2), (5, 3), (1, LARGE), (LARGE, 1)):
            self.assertEqual(times((0, 1), other), (0, 1))
            self.assertEqual(times(other, (0, 1)), (0, 1))
            self.assertEqual(over((0, 1), other), (0, 1))
        self.assertEqual(times((0, 1), (0, 1)), (0, 1))


class Compared(RatioCase):
    def test_against_numbers_multiplied_across(self):
        for one in sample():
            for other in sample():
                self.assertIs(below(one, other), one[0] * other[1] < other[0] * one[1])

    def test_equal_ratios(self):
        for one in sample():
            self.assertIs(below(one, (one[0], one[1])), False)

    def test_written_out(self):
        for less, more in (
            ((0, 1), (1, LARGE)), ((1, 3), (1, 2)), ((1, 2), (2, 3)), ((2, 3), (1, 1)),
            ((9, 10), (10, 11)), ((1, 1), (LARGE + 1, LARGE)), ((5, 1), (11, 2)),
            ((LARGE - 1, LARGE), (LARGE, LARGE + 1)), ((2, 1), (10, 1)),
        ):
            with self.subTest(less=less, more=more):
                self.assertIs(below(less, more), True)
                self.assertIs(below(more, less), False)


class Told(RatioCase):
    def test_what_is_told_is_new_and_nothing_is_changed(self):
        one, other = ratio(3, 7), ratio(1, 1)
        for value in (times(one, other), over(one, other)):
            self.assertEqual(value, one)
            self.assertIsNot(value, one)
        self.assertIsNot(ratio(3, 7), ratio(3, 7))
        self.assertEqual((one, other), ((3, 7), (1, 1)))

    def test_asked_again_answers_the_same(self):
        first = [(ratio(a, 12), times((a, 1), (5, 6)), over((a, 1), (5, 6))) for a in range(30)]
        again = [(ratio(a, 12), times((a, 1), (5, 6)), over((a, 1), (5, 6))) for a in range(30)]
        self.assertEqual(first, again)

    def test_arguments_are_called_as_in_the_interface(self):
        for name, wanted in (
            ("ratio", ["a", "b"]), ("times", ["one", "other"]),
            ("over", ["one", "other"]), ("below", ["one", "other"]),
        ):
            told = inspect.signature(getattr(ratios, name)).parameters
            self.assertEqual(list(told), wanted)


if __name__ == "__main__":
    unittest.main()
