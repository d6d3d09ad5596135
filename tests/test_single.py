"""Promises [5] and [6], and [1] and [4] as far as they speak of one row."""

import random
import unittest
from fractions import Fraction

from seatweave.errors import BadLine, BadRule, DealError, NoTable, NoVotes
from seatweave.rules import Between, Down, Half
from seatweave.single import dealt
from tables import goes, is_ratio_above_nought, pair, some_row, some_rule, some_total


def by_prices(votes, seats, part):
    """The seats with the lowest prices of all, at one price those of earlier places."""
    prices = sorted(
        ((part + n - 1) / number, k) for k, number in enumerate(votes) if number for n in range(1, seats + 2)
    )
    return [[k for price, k in prices[:seats]].count(k) for k in range(len(votes))]


def least_and_greatest(votes, told, part):
    """Between which ratios each number of votes is rounded to its seats."""
    least = [(part + n - 1) / number for number, n in zip(votes, told) if n]
    greatest = [(part + n) / number for number, n in zip(votes, told) if number]
    return max(least, default=None), min(greatest, default=None)


class DealtCase(unittest.TestCase):
    def assert_dealt(self, votes, seats, rule, part):
        answer = dealt(votes, seats, rule)
        self.assertIs(type(answer), tuple)
        self.assertEqual(len(answer), 2)
        told, by = answer
        self.assertIs(type(told), list)
        self.assertEqual([type(n) for n in told], [int] * len(votes))
        self.assertEqual(sum(told), seats)
        self.assertTrue(is_ratio_above_nought(by), by)
        for number, n in zip(votes, told):
            self.assertTrue(goes(part, number * Fraction(*by), n), (number, by, n))
            if number == 0:
                self.assertEqual(n, 0)
        least, greatest = least_and_greatest(votes, told, part)
        self.assertEqual(by, pair(least if seats else greatest if any(votes) else Fraction(1)))
        self.assert_ties_go_to_the_earlier(votes, told, Fraction(*by), part)
        return answer

    def assert_ties_go_to_the_earlier(self, votes, told, by, part):
        if not sum(told):
            return
        could_lose = [k for k, n in enumerate(told) if n and votes[k] * by == part + n - 1]
        could_gain = [k for k, n in enumerate(told) if votes[k] * by == part + n]
        self.assertTrue(could_lose)
        self.assertTrue(all(k < other for k in could_lose for other in could_gain), (votes, told, by))


class Written(unittest.TestCase):
    def test_written_out(self):
        for votes, seats, rule, wanted in (
            ([100, 80, 30, 20], 8, Down(), ([4, 3, 1, 0], (1, 25))),
            ([100, 80, 30, 20], 8, Between(1, 1), ([4, 3, 1, 0], (1, 25))),
            ([100, 80, 30, 20], 7, Half(), ([3, 2, 1, 1], (1, 40))),
            ([100, 80, 30, 20], 6, Half(), ([3, 2, 1, 0], (1, 40))),
            ([53, 24, 23], 7, Half(), ([3, 2, 2], (3, 46))),
            ([53, 24, 23], 7, Down(), ([4, 2, 1], (1, 12))),
            ([10, 1], 2, Between(1, 1000), ([1, 1], (1, 1000))),
            ([7], 5, Down(), ([5], (5, 7))),
            ([1, 1, 1], 0, Half(), ([0, 0, 0], (1, 2))),
            ([4, 10, 0], 0, Down(), ([0, 0, 0], (1, 10))),
            ([4, 10, 0], 0, Between(2, 5), ([0, 0, 0], (1, 25))),
            ([0, 0], 0, Down(), ([0, 0], (1, 1))),
            ([0], 0, Between(1, 7), ([0], (1, 1))),
            ([0, 3, 0], 2, Half(), ([0, 2, 0], (1, 2))),
        ):
            with self.subTest(votes=votes, seats=seats, rule=type(rule).__name__):
                self.assertEqual(dealt(votes, seats, rule), wanted)

    def test_ties_written_out(self):
        for votes, seats, rule, wanted in (
            ([1, 1, 1], 1, Down(), [1, 0, 0]), ([1, 1, 1], 2, Down(), [1, 1, 0]), ([1, 1, 1], 4, Half(), [2, 1, 1]),
            ([1, 2], 2, Down(), [1, 1]), ([1, 2], 2, Half(), [1, 1]), ([2, 1], 2, Down(), [2, 0]),
            ([0, 5, 5], 1, Down(), [0, 1, 0]), ([1, 3], 2, Half(), [1, 1]), ([3, 1], 2, Half(), [2, 0]),
            ([3, 1, 1], 3, Half(), [2, 1, 0]), ([1, 3, 1], 2, Half(), [1, 1, 0]), ([1, 2, 3], 4, Down(), [1, 1, 2]),
        ):
            with self.subTest(votes=votes, seats=seats, rule=type(rule).__name__):
                self.assertEqual(dealt(votes, seats, rule)[0], wanted)


class Dealt(DealtCase):
    def test_rows_of_all_sizes(self):
        chance = random.Random(51)
        for step in range(600):
            votes = some_row(chance, chance.randint(1, 12))
            rule, part = some_rule(chance)
            seats = some_total(chance) if any(votes) else 0
            with self.subTest(votes=votes, seats=seats, part=part):
                told, by = self.assert_dealt(votes, seats, rule, part)
                self.assertEqual(told, by_prices(votes, seats, part))

    def test_all_small_rows(self):
        for rule, part in ((Down(), Fraction(1)), (Half(), Fraction(1, 2)), (Between(1, 3), Fraction(1, 3))):
            for first in range(4):
                for second in range(4):
                    for third in range(4):
                        votes = [first, second, third]
                        for seats in range(7 if any(votes) else 1):
                            told, by = self.assert_dealt(votes, seats, rule, part)
                            self.assertEqual(told, by_prices(votes, seats, part))

    def test_the_greatest_numbers(self):
        for votes in ([1000000000] * 12, [1000000000, 1] * 6, [1] + [0] * 11, list(range(999999989, 1000000001))):
            for seats in (0, 1, 299, 300):
                self.assert_dealt(votes, seats, Between(1, 1000), Fraction(1, 1000))
                self.assert_dealt(votes, seats, Between(999, 1000), Fraction(999, 1000))
                self.assert_dealt(votes, seats, Half(), Fraction(1, 2))

    def test_somewhat_beyond_the_bounds_nothing_is_refused(self):
        self.assert_dealt([1000000007, 3, 0] * 5, 320, Down(), Fraction(1))
        self.assert_dealt([5000000000], 301, Half(), Fraction(1, 2))
        self.assertEqual(dealt([], 0, Down()), ([], (1, 1)))


class NoVotesThere(unittest.TestCase):
    def test_seats_and_no_votes(self):
        for width in (1, 2, 12):
            for seats in (1, 2, 300):
                for rule in (Down(), Half(), Between(1, 1000), Between(1, 1)):
                    with self.assertRaises(DealError) as taken:
                        dealt([0] * width, seats, rule)
                    self.assertIs(type(taken.exception), NoVotes)
                    self.assertNotIsInstance(taken.exception, (BadLine, BadRule, NoTable))

    def test_not_without_seats_and_not_with_a_vote(self):
        for rule in (Down(), Half(), Between(1, 1000)):
            for width in range(1, 13):
                self.assertEqual(dealt([0] * width, 0, rule), ([0] * width, (1, 1)))
                self.assertEqual(dealt([0] * (width - 1) + [1], 3, rule)[0], [0] * (width - 1) + [3])


class Kept(unittest.TestCase):
    def test_the_row_stays_and_may_be_changed_behind(self):
        votes = [5, 0, 7, 7]
        answer = dealt(votes, 6, Half())
        self.assertEqual(votes, [5, 0, 7, 7])
        votes[0] = 1000
        votes.append(3)
        self.assertEqual(answer, ([2, 0, 2, 2], (3, 10)))

    def test_what_is_told_is_new(self):
        votes = [1, 2, 0]
        for seats in (0, 3):
            first = dealt(votes, seats, Down())
            again = dealt(votes, seats, Down())
            self.assertEqual(first, again)
            self.assertIsNot(first[0], again[0])
            self.assertIsNot(first[0], votes)
            first[0][0] = 99
            self.assertNotEqual(dealt(votes, seats, Down()), first)

    def test_the_rule_stays(self):
        rule = Between(2, 5)
        before = dict(vars(rule))
        dealt([3, 4], 20, rule)
        self.assertEqual(vars(rule), before)


if __name__ == "__main__":
    unittest.main()
