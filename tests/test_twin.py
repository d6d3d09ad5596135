"""Promises [10] and [11], and [1] as far as it speaks of twins."""

import random
import unittest
from fractions import Fraction

from seatweave.dealing import Bar, Dealing, twin, woven
from seatweave.rules import Between, Down, Half
from tables import (
    all_dealings, column_sums, doubled_table, is_dealing, pair, share_of, some_rule, some_size, some_table,
    some_total, some_votes, sums_by_votes,
)


def has_other(votes, dealing, part):
    """Whether seats at a mark can be moved round: a cell that may have one more, then one less, and so on."""
    leads = {}
    for i, row in enumerate(dealing.seats):
        for j, seats in enumerate(row):
            share = share_of(votes, dealing.rows, dealing.columns, i, j)
            if share == part + seats:
                leads.setdefault(("row", i), []).append(("column", j))
            if seats and share == part + seats - 1:
                leads.setdefault(("column", j), []).append(("row", i))
    seen = {}

    def turns_back(node):
        if node in seen:
            return seen[node] == "open"
        seen[node] = "open"
        found = any([turns_back(other) for other in leads.get(node, [])])
        seen[node] = "done"
        return found

    return any([turns_back(node) for node in list(leads)])


class TwinCase(unittest.TestCase):
    def assert_twin(self, votes, dealing, rule, part):
        before = ([list(row) for row in votes], repr(vars(dealing)))
        other = twin(votes, dealing, rule)
        self.assertEqual(([list(row) for row in votes], repr(vars(dealing))), before)
        self.assertIs(other is not None, has_other(votes, dealing, part))
        if other is not None:
            self.assertIs(type(other), Dealing)
            self.assertNotEqual(other.seats, dealing.seats)
            self.assertEqual((other.rows, other.columns), (dealing.rows, dealing.columns))
            places, parties = [sum(row) for row in dealing.seats], column_sums(dealing.seats)
            self.assertTrue(is_dealing(votes, places, parties, part, other.seats, other.rows, other.columns))
            self.assertIs(other.shown(votes, places, parties, rule), True)
            self.assertEqual([type(n) for row in other.seats for n in row], [int] * len(votes) * len(votes[0]))
        return other


class Twins(TwinCase):
    def test_written_out(self):
        votes = [[1, 1], [1, 1]]
        first = woven(votes, [1, 1], [1, 1], Half())
        other = twin(votes, first, Half())
        self.assertEqual(sorted([first.seats, other.seats]), [[[0, 1], [1, 0]], [[1, 0], [0, 1]]])
        self.assertIsNone(twin(votes, woven(votes, [2, 2], [2, 2], Half()), Half()))
        self.assertIsNone(twin([[5]], woven([[5]], [3], [3], Down()), Down()))
        self.assertIsNone(twin([[2, 1], [1, 1]], woven([[2, 1], [1, 1]], [1, 1], [1, 1], Half()), Half()))

    def test_of_tables_of_all_sizes(self):
        chance = random.Random(101)
        found = []
        for step in range(400):
            votes, places, parties = doubled_table(chance, 12) if step % 2 else some_table(chance, dealable=True)
            rule, part = some_rule(chance)
            found.append(self.assert_twin(votes, woven(votes, places, parties, rule), rule, part))
        self.assertGreater(len(found) - found.count(None), 50)
        self.assertGreater(found.count(None), 50)

    def test_of_votes_alike_or_none(self):
        chance = random.Random(102)
        for step in range(150):
            height, width = some_size(chance), some_size(chance)
            number = chance.choice((0, 1, 3, 1000000000))
            votes = [[number] * width for i in range(height)]
            places, parties = sums_by_votes(chance, votes, some_total(chance))
            rule, part = some_rule(chance)
            other = self.assert_twin(votes, woven(votes, places, parties, rule), rule, part)
            if number == 0:
                self.assertIsNone(other)

    def test_of_ratios_twice_and_half(self):
        chance = random.Random(103)
        for step in range(150):
            votes, places, parties = doubled_table(chance, 12) if step % 2 else some_table(chance, dealable=True)
            rule, part = some_rule(chance)
            first = woven(votes, places, parties, rule)
            bent = Dealing(
                first.seats, [pair(Fraction(*one) * 2) for one in first.rows],
                [pair(Fraction(*one) / 2) for one in first.columns],
            )
            other = self.assert_twin(votes, bent, rule, part)
            self.assertIs(other is None, twin(votes, first, rule) is None)

    def test_of_small_tables_against_all_dealings(self):
        chance = random.Random(104)
        counts = []
        for step in range(200):
            if step % 2:
                votes, places, parties = doubled_table(chance, 3, 10)
            else:
                votes = some_votes(chance, chance.randint(1, 3), chance.randint(1, 4))
                places, parties = sums_by_votes(chance, votes, chance.randint(0, 6))
            rule, part = some_rule(chance)
            first = woven(votes, places, parties, rule)
            known = all_dealings(votes, places, parties, part)
            other = self.assert_twin(votes, first, rule, part)
            self.assertIs(other is None, len(known) == 1)
            if other is not None:
                self.assertIn(other.seats, known)
            for seats in known:
                # Any two can be shown with the same ratios, and each is a dealing with a twin of its own.
                same = Dealing(seats, first.rows, first.columns)
                self.assertIs(same.shown(votes, places, parties, rule), True)
                self.assertIs(self.assert_twin(votes, same, rule, part) is None, len(known) == 1)
            counts.append(len(known))
        self.assertGreater(counts.count(1), 50)
        self.assertGreater(counts.count(2), 10)
        self.assertGreater(max(counts), 2)

    def test_of_a_twin(self):
        chance = random.Random(105)
        for step in range(60):
            votes, places, parties = doubled_table(chance, 12) if step % 2 else some_table(chance, dealable=True)
            rule, part = some_rule(chance)
            other = twin(votes, woven(votes, places, parties, rule), rule)
            if other is not None:
                self.assertIsNotNone(self.assert_twin(votes, other, rule, part))

    def test_a_long_way_round(self):
        for size in range(2, 13):
            votes = [[0] * size for i in range(size)]
            for i in range(size):
                votes[i][i] = 3
                votes[i][(i + 1) % size] = 3
            first = woven(votes, [1] * size, [1] * size, Down())
            other = self.assert_twin(votes, first, Down(), Fraction(1))
            self.assertEqual(
                [[a + b for a, b in zip(*rows)] for rows in zip(first.seats, other.seats)],
                [[1 if number else 0 for number in row] for row in votes],
            )
            votes[0][0] = 4
            self.assertIsNone(twin(votes, woven(votes, [1] * size, [1] * size, Down()), Down()))


class Kept(unittest.TestCase):
    def test_the_first_stays_and_may_be_changed_behind(self):
        votes = [[1, 1], [1, 1]]
        first = woven(votes, [1, 1], [1, 1], Half())
        known = (first.seats, first.rows, first.columns)
        other = twin(votes, first, Half())
        wanted = repr(vars(other))
        for mine, its in zip(known, (other.seats, other.rows, other.columns)):
            self.assertIsNot(mine, its)
        first.seats[0][0] = 50
        first.rows[0] = (9, 1)
        first.columns.clear()
        votes[0][0] = 7
        self.assertEqual(repr(vars(other)), wanted)

    def test_what_is_told_is_new(self):
        votes = [[1, 1], [1, 1]]
        first = woven(votes, [1, 1], [1, 1], Half())
        other = twin(votes, first, Half())
        again = twin(votes, first, Half())
        self.assertEqual(vars(other), vars(again))
        other.seats[0][0] = 50
        other.rows.clear()
        self.assertEqual(vars(twin(votes, first, Half())), vars(again))


class MoreVotes(unittest.TestCase):
    def seats_told(self, votes, dealing, rule, i, j):
        other = twin(votes, dealing, rule)
        return [one.seats[i][j] for one in (dealing, other) if one is not None]

    def test_a_cell_with_more_votes_has_no_fewer_seats(self):
        chance = random.Random(111)
        risen = 0
        for step in range(250):
            votes, places, parties = doubled_table(chance, 12) if step % 2 else some_table(chance, dealable=True)
            rule, part = some_rule(chance)
            i, j = chance.randrange(len(votes)), chance.randrange(len(votes[0]))
            before = self.seats_told(votes, woven(votes, places, parties, rule), rule, i, j)
            for more in (1, chance.randint(1, 10), votes[i][j] // 2, 1000000000 - votes[i][j]):
                bent = [list(row) for row in votes]
                bent[i][j] += more
                answer = woven(bent, places, parties, rule)
                self.assertIs(type(answer), Dealing)
                after = self.seats_told(bent, answer, rule, i, j)
                if more:
                    self.assertGreaterEqual(min(after), max(before), (votes, places, parties, part, i, j, more))
                risen += min(after) > max(before)
        self.assertGreater(risen, 50)

    def test_a_bar_may_fall_but_never_comes(self):
        votes = [[1, 0], [1, 1]]
        self.assertIs(type(woven(votes, [2, 1], [1, 2], Half())), Bar)
        self.assertEqual(woven([[1, 1], [1, 1]], [2, 1], [1, 2], Between(1, 2)).seats, [[1, 1], [0, 1]])


if __name__ == "__main__":
    unittest.main()
