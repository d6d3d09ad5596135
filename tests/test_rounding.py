"""Promise [12], and [1] as far as it speaks of tables rounded."""

import itertools
import random
import unittest

from seatweave.rounding import rounded

MOST = 2000000000


def some_cells(chance, height, width, w):
    style = chance.choice(("any", "whole", "small", "near", "mixed"))

    def cell():
        if style == "any":
            return chance.randint(0, MOST)
        if style == "whole":
            return chance.choice((0, w, MOST // w * w, chance.randint(0, MOST // w) * w))
        if style == "small":
            return chance.randint(0, min(MOST, 2 * w))
        if style == "near":
            return max(0, min(MOST, chance.randint(0, 5) * w + chance.choice((-1, 0, 1))))
        return chance.choice((0, 1, w, w - 1, MOST, MOST - 1, chance.randint(0, MOST)))

    return [[cell() for j in range(width)] for i in range(height)]


class RoundedCase(unittest.TestCase):
    def assert_next_to(self, told, number, w):
        self.assertIs(type(told), int)
        self.assertIn(told, (number // w, -(-number // w)))

    def assert_rounded(self, table, w):
        before = [list(row) for row in table]
        told = rounded(table, w)
        self.assertEqual(table, before)
        self.assertIs(type(told), list)
        self.assertEqual([type(row) for row in told], [list] * len(table))
        self.assertEqual([len(row) for row in told], [len(row) for row in table])
        for row, cells in zip(told, table):
            for cell, number in zip(row, cells):
                self.assert_next_to(cell, number, w)
            self.assert_next_to(sum(row), sum(cells), w)
        for column, cells in zip(zip(*told), zip(*table)):
            self.assert_next_to(sum(column), sum(cells), w)
        self.assert_next_to(sum(map(sum, told)), sum(map(sum, table)), w)
        return told


class Rounded(RoundedCase):
    def test_written_out(self):
        self.assertEqual(rounded([[6, 3], [0, 9]], 3), [[2, 1], [0, 3]])
        self.assertEqual(rounded([[5]], 1), [[5]])
        self.assertEqual(rounded([[0]], 1000000), [[0]])
        self.assertIn(rounded([[1]], 2), ([[0]], [[1]]))
        self.assertIn(rounded([[1, 1], [1, 1]], 2), ([[1, 0], [0, 1]], [[0, 1], [1, 0]]))
        self.assertIn(rounded([[1, 2], [2, 1]], 3), ([[0, 1], [1, 0]], [[1, 0], [0, 1]]))
        self.assertEqual(sum(rounded([[1] * 12], 12)[0]), 1)

    def test_tables_of_all_sizes(self):
        chance = random.Random(121)
        for step in range(400):
            w = chance.choice((1, 2, 3, 7, 10, 1000, 999999, 1000000, chance.randint(1, 1000000)))
            table = some_cells(chance, chance.randint(1, 12), chance.randint(1, 12), w)
            with self.subTest(table=table, w=w):
                self.assert_rounded(table, w)

    def test_all_tables_of_few_small_cells(self):
        for w in (1, 2, 3, 4):
            for cells in itertools.product(range(w + 1), repeat=4):
                self.assert_rounded([list(cells[:2]), list(cells[2:])], w)
                self.assert_rounded([list(cells)], w)
                self.assert_rounded([[cell] for cell in cells], w)
        for cells in itertools.product(range(3), repeat=6):
            self.assert_rounded([list(cells[:3]), list(cells[3:])], 3)

    def test_whole_numbers_stay(self):
        chance = random.Random(122)
        for step in range(60):
            w = chance.randint(1, 1000000)
            whole = [[chance.randint(0, MOST // w) for j in range(12)] for i in range(12)]
            self.assertEqual(self.assert_rounded([[n * w for n in row] for row in whole], w), whole)

    def test_one_cell_that_is_not_whole(self):
        for i in range(3):
            for j in range(4):
                table = [[10] * 4 for row in range(3)]
                table[i][j] = 13
                told = self.assert_rounded(table, 5)
                self.assertIn(told[i][j], (2, 3))
                told[i][j] = 2
                self.assertEqual(told, [[2] * 4] * 3)

    def test_the_greatest_tables(self):
        for w in (1, 2, 7, 999999, 1000000):
            for number in (0, 1, MOST - 1, MOST):
                self.assert_rounded([[number] * 12 for i in range(12)], w)
        for k in range(1, 13):
            self.assert_rounded([[k] * 12 for i in range(12)], 13)

    def test_somewhat_beyond_the_bounds_nothing_is_refused(self):
        chance = random.Random(123)
        for w in (1000001, 1500007, 2):
            self.assert_rounded([[chance.randint(0, 2 * MOST) for j in range(14)] for i in range(15)], w)
        self.assertEqual(rounded([], 5), [])
        self.assertEqual(rounded([[], []], 5), [[], []])


class Kept(unittest.TestCase):
    def test_the_table_may_be_changed_behind(self):
        table = [[4, 8], [2, 6]]
        told = rounded(table, 2)
        table[0][0] = 100
        table.append([1, 1])
        self.assertEqual(told, [[2, 4], [1, 3]])

    def test_what_is_told_is_new(self):
        for w in (1, 2):
            table = [[2, 4], [6, 8]]
            first = rounded(table, w)
            again = rounded(table, w)
            self.assertEqual(first, again)
            for one, other, row in zip(first, again, table):
                self.assertIsNot(one, other)
                self.assertIsNot(one, row)
            first[0][0] = 77
            self.assertEqual(rounded(table, w), again)
            self.assertEqual(table, [[2, 4], [6, 8]])

    def test_one_row_handed_in_twice(self):
        row = [1, 2]
        told = rounded([row, row], 3)
        self.assertIsNot(told[0], told[1])
        self.assertEqual(row, [1, 2])


if __name__ == "__main__":
    unittest.main()
