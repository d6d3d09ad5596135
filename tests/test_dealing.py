"""Promises [7], [8] and [9]: what woven tells; and [1] and [4] as far as they speak of it."""

import random
import time
import unittest
from fractions import Fraction

from seatweave.dealing import Answer, Bar, Dealing, woven
from seatweave.rules import Between, Down, Half
from tables import all_dealings, has_bar, is_bar, is_dealing, some_rule, some_table, some_votes, sums_by_votes

HALF = Fraction(1, 2)


def copied(table):
    return [list(row) for row in table]


class WovenCase(unittest.TestCase):
    def assert_woven(self, votes, places, parties, rule, part):
        before = (copied(votes), list(places), list(parties), dict(vars(rule)))
        answer = woven(votes, places, parties, rule)
        self.assertEqual((votes, places, parties, vars(rule)), before)
        self.assertIsInstance(answer, Answer)
        if type(answer) is Dealing:
            self.assert_whole_numbers(answer.seats)
            self.assertTrue(is_dealing(votes, places, parties, part, answer.seats, answer.rows, answer.columns))
        else:
            self.assertIs(type(answer), Bar)
            self.assert_whole_numbers([answer.rows, answer.columns])
            self.assertTrue(is_bar(votes, places, parties, answer.rows, answer.columns))
        self.assertIs(type(answer.rows), list)
        self.assertIs(type(answer.columns), list)
        self.assertIs(answer.shown(votes, places, parties, rule), True)
        return answer

    def assert_whole_numbers(self, table):
        self.assertIs(type(table), list)
        for row in table:
            self.assertIs(type(row), list)
            self.assertEqual([type(number) for number in row], [int] * len(row))


class Written(unittest.TestCase):
    def test_dealings_written_out(self):
        for votes, places, parties, rule, wanted in (
            ([[7]], [3], [3], Half(), [[3]]),
            ([[7]], [0], [0], Half(), [[0]]),
            ([[0]], [0], [0], Down(), [[0]]),
            ([[5, 3], [2, 4]], [2, 2], [2, 2], Half(), [[1, 1], [1, 1]]),
            ([[100, 1], [1, 100]], [2, 2], [2, 2], Half(), [[2, 0], [0, 2]]),
            ([[100, 1], [1, 100]], [2, 2], [2, 2], Between(1, 1000), [[1, 1], [1, 1]]),
            ([[1, 0], [0, 1]], [4, 2], [4, 2], Down(), [[4, 0], [0, 2]]),
            ([[9, 0, 1], [9, 9, 1]], [3, 0], [3, 0, 0], Down(), [[3, 0, 0], [0, 0, 0]]),
        ):
            with self.subTest(votes=votes, rule=type(rule).__name__):
                answer = woven(votes, places, parties, rule)
                self.assertIs(type(answer), Dealing)
                self.assertEqual(answer.seats, wanted)

    def test_bars_written_out(self):
        for votes, places, parties, rows, columns in (
            ([[0]], [1], [1], [], [0]),
            ([[0, 0], [1, 1]], [1, 0], [1, 0], [1], [0, 1]),
            ([[1, 0], [1, 1]], [2, 1], [1, 2], [1], [1]),
            ([[1, 0], [0, 1]], [2, 1], [1, 2], [1], [1]),
        ):
            with self.subTest(votes=votes):
                answer = woven(votes, places, parties, Half())
                self.assertIs(type(answer), Bar)
                self.assertEqual((answer.rows, answer.columns), (rows, columns))


class OneOfTheTwo(WovenCase):
    def test_tables_of_all_sizes(self):
        chance = random.Random(78)
        kinds = []
        for step in range(500):
            votes, places, parties = some_table(chance)
            rule, part = some_rule(chance)
            with self.subTest(votes=votes, places=places, parties=parties, part=part):
                kinds.append(type(self.assert_woven(votes, places, parties, rule, part)))
        self.assertGreater(kinds.count(Dealing), 100)
        self.assertGreater(kinds.count(Bar), 30)

    def test_where_there_is_a_way_there_is_a_dealing(self):
        chance = random.Random(79)
        for step in range(200):
            votes, places, parties = some_table(chance, dealable=True)
            rule, part = some_rule(chance)
            self.assertIs(type(self.assert_woven(votes, places, parties, rule, part)), Dealing)

    def test_a_bar_just_where_there_is_one_by_whatever_rule(self):
        chance = random.Random(80)
        for step in range(150):
            votes = some_votes(chance, chance.randint(1, 6), chance.randint(1, 6), nought=0.5)
            if chance.random() < 0.5:
                places, parties = sums_by_votes(chance, votes, chance.randint(0, 30))
            else:
                total = chance.randint(0, 12)
                places = [0] * len(votes)
                parties = [0] * len(votes[0])
                for seat in range(total):
                    places[chance.randrange(len(places))] += 1
                    parties[chance.randrange(len(parties))] += 1
            wanted = Bar if has_bar(votes, places, parties) else Dealing
            for rule, part in ((Down(), Fraction(1)), (Half(), HALF), (Between(1, 1000), Fraction(1, 1000))):
                self.assertIs(type(self.assert_woven(votes, places, parties, rule, part)), wanted)

    def test_small_tables_against_all_ways_to_deal(self):
        chance = random.Random(81)
        for step in range(150):
            votes = some_votes(chance, chance.randint(1, 3), chance.randint(1, 3))
            places, parties = sums_by_votes(chance, votes, chance.randint(0, 7))
            rule, part = some_rule(chance)
            answer = self.assert_woven(votes, places, parties, rule, part)
            self.assertIn(answer.seats, all_dealings(votes, places, parties, part))

    def test_no_votes_at_all(self):
        for height in (1, 2, 12):
            for width in (1, 3, 12):
                votes = [[0] * width for i in range(height)]
                nought = self.assert_woven(votes, [0] * height, [0] * width, Half(), HALF)
                self.assertIs(type(nought), Dealing)
                one = self.assert_woven(votes, [1] + [0] * (height - 1), [0] * (width - 1) + [1], Half(), HALF)
                self.assertIs(type(one), Bar)

    def test_places_and_parties_that_are_due_none(self):
        chance = random.Random(82)
        for step in range(60):
            votes = some_votes(chance, 12, 12)
            places, parties = sums_by_votes(chance, votes, 300)
            i, j = chance.randrange(12), chance.randrange(12)
            left = places[i]
            places[i] = 0
            while left:
                k = chance.randrange(12)
                if parties[k]:
                    parties[k] -= 1
                    left -= 1
            moved = parties[j]
            parties[j] = 0
            parties[(j + 1) % 12] += moved
            rule, part = some_rule(chance)
            self.assert_woven(votes, places, parties, rule, part)

    def test_more_seats_than_votes(self):
        for rule, part in ((Down(), Fraction(1)), (Half(), HALF), (Between(1, 1000), Fraction(1, 1000))):
            votes = [[1, 1, 0], [0, 2, 1]]
            self.assertIs(type(self.assert_woven(votes, [200, 100], [90, 160, 50], rule, part)), Dealing)

    def test_votes_that_are_alike(self):
        for number in (1, 7, 1000000000):
            for height, width in ((1, 1), (2, 2), (3, 5), (12, 12)):
                votes = [[number] * width for i in range(height)]
                places = [width] * height
                parties = [height] * width
                answer = self.assert_woven(votes, places, parties, Half(), HALF)
                self.assertEqual(answer.seats, [[1] * width for i in range(height)])

    def test_long_chains_of_cells(self):
        chance = random.Random(83)
        for step in range(40):
            votes = [[0] * 12 for i in range(12)]
            for i in range(12):
                votes[i][i] = chance.randint(1, 1000000000)
                votes[i][(i + 1) % 12] = chance.randint(1, 1000000000)
            places, parties = sums_by_votes(chance, votes, 300)
            rule, part = some_rule(chance)
            self.assertIs(type(self.assert_woven(votes, places, parties, rule, part)), Dealing)

    def test_somewhat_beyond_the_bounds_nothing_is_refused(self):
        chance = random.Random(84)
        votes = [[chance.randint(0, 3) * 1000000007 for j in range(14)] for i in range(13)]
        places, parties = sums_by_votes(chance, votes, 330)
        self.assertIs(type(self.assert_woven(votes, places, parties, Half(), HALF)), Dealing)
        self.assertIs(type(self.assert_woven([[3, 1]], [400], [310, 90], Half(), HALF)), Dealing)

    def test_the_largest_tables_in_a_time_that_can_be_waited_for(self):
        chance = random.Random(85)
        for nought in (0, 0.25, 0.7):
            for rule in (Down(), Half(), Between(1, 1000), Between(1, 1)):
                votes = [
                    [0 if chance.random() < nought else chance.randint(1, 1000000000) for j in range(12)]
                    for i in range(12)
                ]
                places, parties = sums_by_votes(chance, votes, 300)
                start = time.monotonic()
                answer = woven(votes, places, parties, rule)
                self.assertLess(time.monotonic() - start, 5)
                self.assertIs(type(answer), Dealing)


class Kept(WovenCase):
    def test_what_is_handed_in_may_be_changed_behind(self):
        for votes, places, parties in (
            ([[5, 3], [2, 4]], [2, 2], [2, 2]), ([[1, 0], [1, 1]], [2, 1], [1, 2]),
        ):
            first = woven(votes, places, parties, Half())
            again = woven(copied(votes), list(places), list(parties), Half())
            votes[0][0] = 999
            votes.append([1, 1])
            places[0] = 77
            parties.append(5)
            self.assertEqual(vars(first), vars(again))

    def test_what_is_told_is_new(self):
        for votes, places, parties in (
            ([[5, 3], [2, 4]], [2, 2], [2, 2]), ([[1, 0], [1, 1]], [2, 1], [1, 2]),
        ):
            first = woven(votes, places, parties, Half())
            again = woven(votes, places, parties, Half())
            self.assertEqual(vars(first), vars(again))
            self.assertIsNot(first, again)
            for name, value in vars(first).items():
                self.assertIsNot(value, getattr(again, name))
                value.append("more")
                value[0] = "other"
            self.assertEqual(vars(woven(votes, places, parties, Half())), vars(again))

    def test_a_dealing_keeps_nothing_that_was_handed_in(self):
        seats, rows, columns = [[1, 0], [0, 1]], [(1, 1), (1, 2)], [(2, 1), (3, 1)]
        dealing = Dealing(seats, rows, columns)
        seats[0][0] = 9
        seats.append([0, 0])
        rows[0] = (5, 1)
        columns.append((7, 1))
        self.assertEqual(dealing.seats, [[1, 0], [0, 1]])
        self.assertEqual((dealing.rows, dealing.columns), ([(1, 1), (1, 2)], [(2, 1), (3, 1)]))
        dealing.seats[1][1] = 4
        dealing.rows.clear()
        self.assertEqual((seats[1], rows), ([0, 1], [(5, 1), (1, 2)]))

    def test_a_bar_keeps_nothing_that_was_handed_in(self):
        rows, columns = [0, 2], [1]
        bar = Bar(rows, columns)
        rows[0] = 1
        columns.clear()
        self.assertEqual((bar.rows, bar.columns), ([0, 2], [1]))
        bar.rows.append(3)
        self.assertEqual(rows, [1, 2])

    def test_one_list_handed_in_twice(self):
        row, ratios = [1, 1], [(1, 1), (1, 1)]
        dealing = Dealing([row, row], ratios, ratios)
        dealing.seats[0][0] = 2
        dealing.rows[0] = (3, 1)
        self.assertEqual((dealing.seats, dealing.columns), ([[2, 1], [1, 1]], [(1, 1), (1, 1)]))


class Kinds(unittest.TestCase):
    def test_neither_is_beneath_the_other(self):
        self.assertTrue(issubclass(Dealing, Answer) and issubclass(Bar, Answer))
        self.assertFalse(issubclass(Dealing, Bar) or issubclass(Bar, Dealing))

    def test_fields_are_those_of_the_interface(self):
        self.assertEqual(list(vars(Dealing([[1]], [(1, 1)], [(1, 1)]))), ["seats", "rows", "columns"])
        self.assertEqual(list(vars(Bar([], [0]))), ["rows", "columns"])


if __name__ == "__main__":
    unittest.main()
