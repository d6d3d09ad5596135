"""Promises [8] and [9] as `shown` tells them, of answers as they are and of answers that are bent."""

import random
import unittest
from fractions import Fraction

from seatweave.dealing import Answer, Bar, Dealing, woven
from seatweave.rules import Between, Down, Half
from tables import is_bar, is_dealing, pair, some_rule, some_split, some_table

HALF = Fraction(1, 2)
HAIR = Fraction(1, 10 ** 12)


def copy_of(answer):
    if type(answer) is Dealing:
        return Dealing(answer.seats, answer.rows, answer.columns)
    return Bar(answer.rows, answer.columns)


class ShownCase(unittest.TestCase):
    def setUp(self):
        self.truths = []

    def assert_shown_right(self, answer, votes, places, parties, rule, part):
        before = ([list(row) for row in votes], list(places), list(parties), repr(vars(answer)))
        told = answer.shown(votes, places, parties, rule)
        if type(answer) is Dealing:
            wanted = is_dealing(votes, places, parties, part, answer.seats, answer.rows, answer.columns)
        else:
            wanted = is_bar(votes, places, parties, answer.rows, answer.columns)
        self.assertIs(told, wanted, (vars(answer), votes, places, parties, part))
        self.assertEqual(([list(row) for row in votes], places, parties, repr(vars(answer))), before)
        self.truths.append(told)

    def assert_both_were_told(self, least):
        self.assertGreaterEqual(self.truths.count(True), least)
        self.assertGreaterEqual(self.truths.count(False), least)

    def some_answers(self, seed, count, kind):
        """Tables with answers of that kind."""
        chance = random.Random(seed)
        found = 0
        while found < count:
            votes, places, parties = some_table(chance, dealable=kind is Dealing)
            rule, part = some_rule(chance)
            answer = woven(votes, places, parties, rule)
            if type(answer) is kind:
                found += 1
                yield chance, answer, votes, places, parties, rule, part


def two_of(chance, count):
    first = chance.randrange(count)
    return first, (first + chance.randrange(count)) % count


class BentSeats(ShownCase):
    def bends(self, chance, seats):
        """Changes of single cells, as (row, column, by how much)."""
        i, k = two_of(chance, len(seats))
        j, m = two_of(chance, len(seats[0]))
        return (
            [(i, j, -1), (i, m, 1)], [(i, j, -1), (k, j, 1)], [(i, j, 1)], [(i, j, -1)],
            [(i, j, 1), (i, m, -1), (k, j, -1), (k, m, 1)], [(i, j, 2), (i, m, -2), (k, j, -2), (k, m, 2)],
        )

    def test_seats_moved_put_in_or_taken_off(self):
        for chance, answer, votes, places, parties, rule, part in self.some_answers(1, 150, Dealing):
            for bend in self.bends(chance, answer.seats):
                bent = copy_of(answer)
                for i, j, change in bend:
                    bent.seats[i][j] += change
                self.assert_shown_right(bent, votes, places, parties, rule, part)
                # The sums told along with the bent seats, so that the cells alone decide.
                sums = [sum(row) for row in bent.seats], [sum(cells) for cells in zip(*bent.seats)]
                self.assert_shown_right(bent, votes, sums[0], sums[1], rule, part)
        self.assert_both_were_told(100)

    def test_crosswise_where_all_votes_are_alike(self):
        votes = [[1, 1], [1, 1]]
        for seats in ([[1, 0], [0, 1]], [[0, 1], [1, 0]]):
            dealing = Dealing(seats, [(1, 2), (1, 2)], [(1, 1), (1, 1)])
            self.assertIs(dealing.shown(votes, [1, 1], [1, 1], Half()), True)
            self.assertIs(dealing.shown(votes, [1, 1], [1, 1], Down()), False)
            self.assertIs(dealing.shown(votes, [1, 1], [1, 1], Between(499, 1000)), False)
        dealing = Dealing([[2, -1], [-1, 2]], [(1, 2), (1, 2)], [(1, 1), (1, 1)])
        self.assertIs(dealing.shown(votes, [1, 1], [1, 1], Half()), False)

    def test_a_seat_below_nought(self):
        for rule in (Down(), Half(), Between(1, 1000), Between(1, 1)):
            for votes in ([[0, 1]], [[1, 1]], [[0, 0]]):
                for numbers in ([-1, 1], [-1, 2], [1, -1], [-1, -1], [-1, 0]):
                    for by in ((1, 1), (1, 2), (1, 1000), (2, 1)):
                        dealing = Dealing([numbers], [by], [(1, 1), (1, 1)])
                        self.assertIs(dealing.shown(votes, [sum(numbers)], list(numbers), rule), False)

    def test_a_seat_without_votes(self):
        for rule in (Down(), Half(), Between(1, 1000)):
            for by in ((1, 1000000), (1, 1), (1000000, 1)):
                self.assertIs(Dealing([[1]], [by], [(1, 1)]).shown([[0]], [1], [1], rule), False)
                self.assertIs(Dealing([[0]], [by], [(1, 1)]).shown([[0]], [0], [0], rule), True)

    def test_at_the_marks_themselves(self):
        for rule, part in ((Down(), Fraction(1)), (Half(), HALF), (Between(2, 7), Fraction(2, 7))):
            for n in (1, 2, 150, 300, 400):
                for hair, wanted in ((0, (n - 1, n)), (HAIR, (n,)), (-HAIR, (n - 1,))):
                    by = pair((part + n - 1 + hair) / 35)
                    for seats in range(max(0, n - 2), n + 3):
                        dealing = Dealing([[seats]], [by], [(5, 1)])
                        self.assertIs(dealing.shown([[7]], [seats], [seats], rule), seats in wanted)


class BentRatios(ShownCase):
    def test_greater_and_less(self):
        for chance, answer, votes, places, parties, rule, part in self.some_answers(2, 120, Dealing):
            for by in (2, HALF, 1 + HAIR, 1 - HAIR, 1 + HAIR ** 25, 1000000):
                for name in ("rows", "columns"):
                    bent = copy_of(answer)
                    told = getattr(bent, name)
                    k = chance.randrange(len(told))
                    told[k] = pair(Fraction(*told[k]) * by)
                    self.assert_shown_right(bent, votes, places, parties, rule, part)
        self.assert_both_were_told(200)

    def test_all_of_one_side_twice_and_of_the_other_half(self):
        for chance, answer, votes, places, parties, rule, part in self.some_answers(3, 60, Dealing):
            bent = Dealing(
                answer.seats, [pair(Fraction(*one) * 2) for one in answer.rows],
                [pair(Fraction(*one) / 2) for one in answer.columns],
            )
            self.assertIs(bent.shown(votes, places, parties, rule), True)
            twice = Dealing(answer.seats, bent.rows, answer.columns)
            self.assert_shown_right(twice, votes, places, parties, rule, part)

    def test_a_ratio_that_is_nought_or_not_in_least_numbers(self):
        for wrong in ((0, 1), (2, 2), (2, 4), (0, 2), (1, 0), (1, -1), (-1, 1), (-1, -1), (0, 0)):
            self.assertIs(Dealing([[0]], [wrong], [(1, 9)]).shown([[1]], [0], [0], Half()), False)
            self.assertIs(Dealing([[0]], [(1, 9)], [wrong]).shown([[1]], [0], [0], Half()), False)
        self.assertIs(Dealing([[0]], [(1, 9)], [(1, 1)]).shown([[1]], [0], [0], Half()), True)


class BentBars(ShownCase):
    def test_a_place_or_a_party_put_in_or_taken_off(self):
        for chance, answer, votes, places, parties, rule, part in self.some_answers(4, 120, Bar):
            for name, count in (("rows", len(places)), ("columns", len(parties))):
                for k in range(count):
                    bent = copy_of(answer)
                    told = getattr(bent, name)
                    setattr(bent, name, [n for n in told if n != k] if k in told else sorted(told + [k]))
                    self.assert_shown_right(bent, votes, places, parties, rule, part)
        self.assert_both_were_told(50)

    def test_any_bar_of_small_tables(self):
        chance = random.Random(5)
        for step in range(80):
            votes, places, parties = some_table(chance, dealable=False)
            votes = [row[:3] for row in votes[:3]]
            places, parties = places[:len(votes)], parties[:len(votes[0])]
            for rows in range(2 ** len(places)):
                for columns in range(2 ** len(parties)):
                    bar = Bar(
                        [i for i in range(len(places)) if rows >> i & 1],
                        [j for j in range(len(parties)) if columns >> j & 1],
                    )
                    self.assert_shown_right(bar, votes, places, parties, Half(), HALF)
        self.assert_both_were_told(20)

    def test_of_no_places_and_no_parties(self):
        self.assertIs(Bar([], []).shown([[1]], [1], [1], Half()), False)
        self.assertIs(Bar([], []).shown([[1]], [0], [0], Half()), False)
        self.assertIs(Bar([], [0]).shown([[0]], [1], [1], Half()), True)
        self.assertIs(Bar([], [0]).shown([[1]], [1], [1], Half()), False)
        self.assertIs(Bar([0], []).shown([[0]], [1], [1], Half()), False)
        self.assertIs(Bar([0], [0]).shown([[1]], [1], [2], Half()), True)
        self.assertIs(Bar([0], [0]).shown([[1]], [2], [2], Half()), False)

    def test_lists_that_do_not_rise_or_leave_the_table(self):
        votes, places, parties = [[0, 0], [0, 0]], [0, 0], [1, 1]
        self.assertIs(Bar([0, 1], [0, 1]).shown(votes, places, parties, Down()), True)
        for wrong in ([1, 0], [0, 0], [1, 1], [2], [0, 2], [-1], [-1, 0]):
            self.assertIs(Bar(wrong, [0]).shown(votes, places, parties, Down()), False)
            self.assertIs(Bar([0], wrong).shown(votes, places, parties, Down()), False)


class SeatsToldOtherwise(ShownCase):
    def told_otherwise(self, chance, seats):
        k, m = two_of(chance, len(seats))
        more = list(seats)
        more[k] += 1
        less = list(seats)
        less[k] = max(0, less[k] - 1)
        moved = list(less)
        moved[m] += 1
        other = some_split(chance, chance.randint(0, 400), len(seats))
        return seats, more, less, moved, other, [400] * len(seats), [0] * len(seats)

    def test_to_400_and_with_unlike_sums(self):
        for kind in (Dealing, Bar):
            for chance, answer, votes, places, parties, rule, part in self.some_answers(6, 40, kind):
                for some in self.told_otherwise(chance, places):
                    for others in self.told_otherwise(chance, parties):
                        self.assert_shown_right(answer, votes, some, others, rule, part)
            self.assert_both_were_told(40)

    def test_a_dealing_of_400_seats(self):
        dealing = Dealing([[400]], [(400, 1)], [(1, 1)])
        self.assertIs(dealing.shown([[1]], [400], [400], Half()), True)
        self.assertIs(dealing.shown([[1]], [400], [399], Half()), False)
        self.assertIs(dealing.shown([[1]], [399], [400], Half()), False)

    def test_by_another_rule_and_with_other_votes(self):
        for chance, answer, votes, places, parties, rule, part in self.some_answers(7, 80, Dealing):
            other, other_part = some_rule(chance)
            self.assert_shown_right(answer, votes, places, parties, other, other_part)
            i, j = chance.randrange(len(votes)), chance.randrange(len(votes[0]))
            for number in (0, 1, votes[i][j] + 1, 1000000000):
                bent = [list(row) for row in votes]
                bent[i][j] = number
                self.assert_shown_right(answer, bent, places, parties, rule, part)
        self.assert_both_were_told(50)


class ChangedFields(ShownCase):
    def test_a_field_changed_after_the_answer_was_made(self):
        for chance, answer, votes, places, parties, rule, part in self.some_answers(8, 60, Dealing):
            other = copy_of(answer)
            i, j = chance.randrange(len(votes)), chance.randrange(len(votes[0]))
            other.seats[i][j] += 1
            self.assertIs(other.shown(votes, places, parties, rule), False)
            other.seats[i][j] -= 1
            self.assertIs(other.shown(votes, places, parties, rule), True)
            other.rows = [pair(Fraction(*one) * 3) for one in answer.rows]
            self.assert_shown_right(other, votes, places, parties, rule, part)
            other.columns = [pair(Fraction(*one) / 3) for one in answer.columns]
            self.assertIs(other.shown(votes, places, parties, rule), True)
            other.seats = [[0] * len(parties) for row in votes]
            self.assert_shown_right(other, votes, places, parties, rule, part)
            self.assertIs(answer.shown(votes, places, parties, rule), True)

    def test_a_bar_changed_after_it_was_made(self):
        for chance, answer, votes, places, parties, rule, part in self.some_answers(9, 40, Bar):
            other = copy_of(answer)
            other.columns = []
            self.assertIs(other.shown(votes, places, parties, rule), False)
            other.columns.extend(answer.columns)
            self.assertIs(other.shown(votes, places, parties, rule), True)
            other.rows.clear()
            self.assert_shown_right(other, votes, places, parties, rule, part)

    def test_a_bare_answer_is_neither(self):
        self.assertIs(Answer().shown([[1]], [1], [1], Half()), False)


if __name__ == "__main__":
    unittest.main()
