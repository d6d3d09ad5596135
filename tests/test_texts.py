"""Promises [13] and [14], and [1] as far as it speaks of texts."""

import random
import unittest

from seatweave.dealing import Dealing, woven
from seatweave.errors import BadLine, BadRule, DealError, NoTable, NoVotes
from seatweave.rules import Half
from seatweave.texts import Table, read, written

NAMES = ["a", "b", "cd", "efg", "hijk", "lmnop", "qrstuv", "wxyzabc", "abcdefgh", "zzzzzzzz", "aa", "z", "ab"]
PLAIN = "left(3) right(2)\nnorth(4) 100 50\nsouth(1) 0 1000000000"


def fields(table):
    return [table.places, table.parties, table.rows, table.columns, table.votes]


def text_of(parties, columns, places, rows, votes):
    lines = [" ".join(f"{name}({seats})" for name, seats in zip(parties, columns))]
    for name, seats, row in zip(places, rows, votes):
        lines.append(" ".join([f"{name}({seats})"] + [str(number) for number in row]))
    return "\n".join(lines)


def loosened(chance, text):
    """The same table with blanks and lines put in, and the places of its lines."""
    lines = []
    places = []
    for line in text.split("\n"):
        for more in range(chance.choice((0, 0, 1, 3))):
            lines.append(" " * chance.choice((0, 0, 1, 4)))
        places.append(len(lines))
        words = (" " * chance.choice((1, 1, 2, 5))).join(line.split(" "))
        lines.append(" " * chance.choice((0, 0, 1, 3)) + words + " " * chance.choice((0, 0, 1, 3)))
    for more in range(chance.choice((0, 0, 1, 3))):
        lines.append(" " * chance.choice((0, 0, 1, 4)))
    return "\n".join(lines), places


def some_text(chance):
    height, width = chance.randint(1, 12), chance.randint(1, 12)
    rows, columns = [0] * height, [0] * width
    for seat in range(chance.choice((0, 1, 300, chance.randint(0, 300)))):
        rows[chance.randrange(height)] += 1
        columns[chance.randrange(width)] += 1
    votes = [[chance.choice((0, 1, 10, 1000000000, chance.randint(0, 1000000000))) for j in columns] for i in rows]
    places, parties = chance.sample(NAMES, height), chance.sample(NAMES, width)
    return text_of(parties, columns, places, rows, votes), [places, parties, rows, columns, votes]


class Read(unittest.TestCase):
    def assert_plain(self, table):
        self.assertIs(type(table), Table)
        for value in fields(table):
            self.assertIs(type(value), list)
        self.assertEqual({type(name) for name in table.places + table.parties}, {str})
        self.assertEqual({type(seats) for seats in table.rows + table.columns}, {int})
        self.assertEqual({type(row) for row in table.votes}, {list})
        self.assertEqual({type(number) for row in table.votes for number in row}, {int})

    def test_written_out(self):
        table = read(PLAIN)
        self.assert_plain(table)
        self.assertEqual(table.parties, ["left", "right"])
        self.assertEqual(table.columns, [3, 2])
        self.assertEqual(table.places, ["north", "south"])
        self.assertEqual(table.rows, [4, 1])
        self.assertEqual(table.votes, [[100, 50], [0, 1000000000]])
        self.assertEqual(written(table), PLAIN)

    def test_blanks_and_empty_lines(self):
        wanted = fields(read(PLAIN))
        for text in (
            "\n" + PLAIN, "\n\n  \n" + PLAIN, PLAIN + "\n", PLAIN + "\n\n   \n", PLAIN.replace("\n", "\n\n"),
            PLAIN.replace("\n", "\n    \n"), PLAIN.replace(" ", "   "), PLAIN.replace("\n", "  \n  "),
            "   " + PLAIN + "   ", " \n" + PLAIN.replace(" ", "  ").replace("\n", " \n \n ") + " \n ",
        ):
            with self.subTest(text=text):
                table = read(text)
                self.assert_plain(table)
                self.assertEqual(fields(table), wanted)
                self.assertEqual(written(table), PLAIN)

    def test_texts_of_all_sizes(self):
        chance = random.Random(131)
        for step in range(300):
            text, wanted = some_text(chance)
            loose, places = loosened(chance, text)
            with self.subTest(text=loose):
                table = read(loose)
                self.assert_plain(table)
                self.assertEqual(fields(table), wanted)
                self.assertEqual(written(table), text)
                self.assertEqual(fields(read(written(table))), wanted)

    def test_order_is_that_of_the_text(self):
        table = read("zz(1) a(0) m(2)\nq(0) 3 2 1\nb(3) 9 8 7")
        self.assertEqual((table.parties, table.places), (["zz", "a", "m"], ["q", "b"]))
        self.assertEqual((table.columns, table.rows, table.votes), ([1, 0, 2], [0, 3], [[3, 2, 1], [9, 8, 7]]))

    def test_a_place_may_be_called_like_a_party(self):
        table = read("a(1) b(1)\na(1) 1 2\nb(1) 3 4")
        self.assertEqual((table.parties, table.places), (["a", "b"], ["a", "b"]))

    def test_the_bounds_themselves(self):
        names = NAMES[:12]
        votes = [[1000000000] * 12 for i in range(12)]
        text = text_of(names, [25] * 12, names, [25] * 12, votes)
        self.assertEqual(fields(read(text)), [names, names, [25] * 12, [25] * 12, votes])
        self.assertEqual(fields(read("abcdefgh(300)\nz(300) 0")), [["z"], ["abcdefgh"], [300], [300], [[0]]])
        self.assertEqual(fields(read("a(0)\nz(0) 1000000000")), [["z"], ["a"], [0], [0], [[1000000000]]])

    def test_what_was_read_can_be_dealt(self):
        table = read(PLAIN)
        answer = woven(table.votes, table.rows, table.columns, Half())
        self.assertIs(type(answer), Dealing)
        self.assertEqual(answer.seats, [[3, 1], [0, 1]])


class Kept(unittest.TestCase):
    def test_two_tables_side_by_side(self):
        one, other = read(PLAIN), read("x(1)\ny(1) 7")
        self.assertEqual(written(one), PLAIN)
        self.assertEqual(written(other), "x(1)\ny(1) 7")
        self.assertEqual(fields(one), fields(read(PLAIN)))

    def test_what_is_read_is_new_each_time(self):
        one, other = read(PLAIN), read(PLAIN)
        self.assertIsNot(one, other)
        for mine, its in zip(fields(one), fields(other)):
            self.assertIsNot(mine, its)
            mine.append("more")
        one.votes[0][0] = 77
        self.assertEqual(written(other), PLAIN)
        self.assertEqual(written(read(PLAIN)), PLAIN)

    def test_the_lists_of_one_table_are_apart(self):
        table = read("a(1) b(1)\na(1) 1 1\nb(1) 1 1")
        table.rows[0] = 5
        table.places[0] = "other"
        table.votes[0][0] = 9
        self.assertEqual(fields(table), [["other", "b"], ["a", "b"], [5, 1], [1, 1], [[9, 1], [1, 1]]])

    def test_a_table_stays_when_it_is_written(self):
        table = read(PLAIN)
        first = written(table)
        self.assertEqual(written(table), first)
        self.assertEqual(fields(table), fields(read(PLAIN)))

    def test_it_is_written_by_its_fields_as_they_stand(self):
        table = read(PLAIN)
        table.votes[1][0] = 12
        table.rows[0], table.rows[1] = 3, 2
        self.assertEqual(written(table), "left(3) right(2)\nnorth(3) 100 50\nsouth(2) 12 1000000000")


class RefusedCase(unittest.TestCase):
    def assert_bad_line(self, text, line):
        with self.subTest(text=text):
            with self.assertRaises(DealError) as taken:
                read(text)
            self.assertIs(type(taken.exception), BadLine)
            self.assertNotIsInstance(taken.exception, (NoTable, NoVotes, BadRule))
            self.assertIs(type(taken.exception.line), int)
            self.assertEqual(taken.exception.line, line)

    def assert_no_table(self, text):
        with self.subTest(text=text):
            with self.assertRaises(DealError) as taken:
                read(text)
            self.assertIs(type(taken.exception), NoTable)
            self.assertNotIsInstance(taken.exception, (BadLine, NoVotes, BadRule))


WRONG_NAMES = (
    "right", "right2", "right(2", "right2)", "right()", "(2)", "right(2))", "right((2)", "right(2)(2)", "right(2)x",
    "right(2).", "right(2x", "right(22", "right(2]", "right(2)0", "right(2)\t", "\tright(2)", "right (2)",
    "right( 2)", "right(2 )", "ri ght(2)",
    "right\t(2)", "right(\t2)", "Right(2)", "righT(2)", "right1(2)", "1right(2)", "rightrigh(2)", "right(02)",
    "right(00)", "right(+2)", "right(-2)", "right(-0)", "right(2.0)", "right(x)", "right(301)", "right(1000)",
    "right(" + "9" * 5000 + ")", "right[2]", "ri-ght(2)", "ri_ght(2)", "right~(2)", ")right(2", "2(right)", "left(2)",
    "right(2),", "right(1_0)", "right(2)left(1)", "\t", "(", ")", "()", "2", "~", "right(3 0)", "right(0x2)",
)
WRONG_VOTES = (
    "", "5 5 5", "5 5 5 5", "5", "05 5", "5 00", "+5 5", "5 -5", "-0 5", "5 x", "x 5", "5. 5", "5.0 5", "5,5",
    "5,5 5", "5\t5", "5 5\t", "\t5 5", "5 \t 5", "1000000001 5", "5 1000000001", "5 10000000000", "5 " + "9" * 5000,
    "5 (5)", "5 a(5)", "5 5)", "1_0 5", "5 1e3", "5 0x1", "5 ~", "5 !",
)


class BadFirstLines(RefusedCase):
    def test_wrong_words(self):
        for word in WRONG_NAMES:
            for blank in (0, 1, 3):
                self.assert_bad_line("\n" * blank + f"left(3) {word}\nnorth(4) 100 50\nsouth(1) 0 1", blank)
                if word != "left(2)":
                    self.assert_bad_line(" \n" * blank + f"{word} left(3)\nnorth(4) 100 50\nsouth(1) 0 1", blank)

    def test_alone(self):
        for word in WRONG_NAMES:
            if word != "left(2)":
                self.assert_bad_line(word, 0)
                self.assert_bad_line("\n  \n" + word + "\n", 2)

    def test_thirteen_parties(self):
        first = " ".join(f"{name}(0)" for name in NAMES)
        self.assert_bad_line(first + "\nz(0) " + "1 " * 13, 0)
        self.assert_bad_line("\n" + first + "\nz(0) " + "1 " * 12, 1)
        self.assert_bad_line(first, 0)

    def test_a_name_that_was_there(self):
        self.assert_bad_line("a(1) a(1)\nz(2) 1 1", 0)
        self.assert_bad_line("a(1) b(1) a(1)\nz(3) 1 1 1", 0)


class BadPlaces(RefusedCase):
    def test_wrong_names_with_seats(self):
        for word in WRONG_NAMES:
            if word != "left(2)":
                self.assert_bad_line(f"left(3) other(2)\n{word} 100 50\nsouth(3) 0 1", 1)
                self.assert_bad_line(f"left(3) other(2)\nsouth(3) 0 1\n{word} 100 50", 2)
                self.assert_bad_line(f"\nleft(3) other(2)\n  \nsouth(3) 0 1\n\n \n{word} 100 50\n\n", 6)

    def test_wrong_votes(self):
        for words in WRONG_VOTES:
            self.assert_bad_line(f"left(3) right(2)\nnorth(4) {words}\nsouth(1) 0 1", 1)
            self.assert_bad_line(f"left(3) right(2)\nsouth(1) 0 1\nnorth(4) {words}", 2)
            self.assert_bad_line(f" \nleft(3) right(2)\n\nsouth(1) 0 1\n  \nnorth(4) {words}\n\n", 5)

    def test_seats_that_do_not_stand_right_behind_the_name(self):
        self.assert_bad_line("a(1)\nz (1) 5", 1)
        self.assert_bad_line("a(1)\n5 z(1)", 1)
        self.assert_bad_line("a(1)\nz 5", 1)
        self.assert_bad_line("a(1)\nz(1) 5(1)", 1)

    def test_a_name_that_was_there(self):
        self.assert_bad_line("a(2)\nz(1) 5\nz(1) 6", 2)
        self.assert_bad_line("a(3)\nz(1) 5\ny(1) 6\n\nz(1) 7\nx(0) 5", 4)

    def test_thirteen_places(self):
        lines = [f"{name}(0) 5" for name in NAMES]
        self.assert_bad_line("a(0)\n" + "\n".join(lines), 13)
        self.assert_bad_line("a(0)\n\n" + "\n".join(lines) + "\n", 14)
        self.assertEqual(read("a(0)\n" + "\n".join(lines[:12])).places, NAMES[:12])

    def test_a_line_of_a_tab_is_no_line_of_blanks(self):
        self.assert_bad_line("a(1)\nz(1) 5\n\t", 2)
        self.assert_bad_line("a(1)\n \t \nz(1) 5", 1)
        self.assert_bad_line("\t\na(1)\nz(1) 5", 0)


class WhichIsFirst(RefusedCase):
    def test_the_first_of_two_wrong_lines(self):
        self.assert_bad_line("a(1\nz(1 5", 0)
        self.assert_bad_line("a(1)\nz(1 5\ny(1 5", 1)
        self.assert_bad_line("a(1)\nz(1) 5\ny(1) 5 5\nx(1", 2)
        self.assert_bad_line("A(1)\nz(1) 5 5 5", 0)

    def test_a_bad_line_is_ahead_of_no_table(self):
        for text, line in (
            ("a(1)\nz(2) 5\ny(9) x", 2), ("a(300) b(300)\nz(300) 1 1\ny(301) 1 1", 2), ("a(1) b", 0), ("x", 0),
            ("a(2)\nz(1) 5\nz(2) 5", 2), ("a(300) b(1)\nz(1) 5", 1),
        ):
            self.assert_bad_line(text, line)

    def test_any_wrong_line_of_a_larger_text(self):
        chance = random.Random(141)
        for step in range(150):
            text, wanted = some_text(chance)
            lines = text.split("\n")
            k = chance.randrange(len(lines))
            lines[k] += chance.choice((" x", "0x", ")", " 5(", " 1 1", " a(1) a(1)", "\t"))
            loose, places = loosened(chance, "\n".join(lines))
            self.assert_bad_line(loose, places[k])


class NoTables(RefusedCase):
    def test_no_party(self):
        for text in ("", " ", "\n", "   \n\n  \n"):
            self.assert_no_table(text)

    def test_no_place(self):
        for text in ("a(0)", "a(1)", "a(1) b(2)\n", "\n\n a(0) \n  \n"):
            self.assert_no_table(text)

    def test_unlike_sums(self):
        for text in (
            "a(1)\nz(0) 5", "a(0)\nz(1) 5", "a(1) b(1)\nz(1) 5 5", "a(300)\nz(299) 5", "a(2)\nz(1) 5\ny(2) 5",
            "a(1)\nz(300) 5\ny(300) 5",
        ):
            self.assert_no_table(text)

    def test_sums_above_300(self):
        for text in (
            "a(300) b(1)\nz(300) 5 5\ny(1) 5 5", "a(300) b(300)\nz(300) 1 1\ny(300) 1 1",
            "a(151) b(150)\nz(1) 1 1\ny(300) 1 1", "a(300) b(1)\nz(1) 5 5", "a(1)\nz(300) 5\ny(1) 5",
        ):
            self.assert_no_table(text)
        self.assertEqual(read("a(150) b(150)\nz(1) 1 1\ny(299) 1 1").rows, [1, 299])


if __name__ == "__main__":
    unittest.main()
