"""Promise [1] over the whole program, and the names and arguments of the interface."""

import inspect
import os
import random
import subprocess
import sys
import time
import unittest
from unittest import mock

from seatweave import dealing, errors, ratios, rounding, rules, single, texts

TOP = os.path.dirname(os.path.dirname(os.path.abspath(__file__)))
SAID = """
from seatweave.dealing import twin, woven
from seatweave.rounding import rounded
from seatweave.rules import Between, Down, Half
from seatweave.single import dealt
from seatweave.texts import read, written
table = read("a(3) b(2) c(1)\\nx(2) 5 5 5\\ny(4) 1 2 3")
answer = woven(table.votes, table.rows, table.columns, Half())
alike = woven([[1, 1, 1]] * 3, [1, 1, 1], [1, 1, 1], Half())
barred = woven([[1, 0], [1, 1]], [2, 1], [1, 2], Down())
print(written(table), vars(answer), vars(alike), vars(twin([[1, 1, 1]] * 3, alike, Half())), vars(barred))
print(dealt([5, 0, 5, 7], 11, Between(2, 7)), rounded([[1, 2, 3], [4, 5, 6], [7, 8, 9]], 10))
"""


def arguments(thing):
    return list(inspect.signature(thing).parameters)


class Interface(unittest.TestCase):
    def test_functions_and_their_arguments(self):
        for module, name, wanted in (
            (ratios, "ratio", "a b"), (ratios, "times", "one other"), (ratios, "over", "one other"),
            (ratios, "below", "one other"), (rules, "Down", ""), (rules, "Half", ""), (rules, "Between", "p q"),
            (single, "dealt", "votes seats rule"), (dealing, "Dealing", "seats rows columns"),
            (dealing, "Bar", "rows columns"), (dealing, "woven", "votes places parties rule"),
            (dealing, "twin", "votes dealing rule"), (rounding, "rounded", "table w"), (texts, "read", "text"),
            (texts, "written", "table"),
        ):
            with self.subTest(name=name):
                self.assertEqual(arguments(getattr(module, name)), wanted.split())

    def test_shown_is_there_for_each_kind_of_answer(self):
        for kind in (dealing.Answer, dealing.Dealing, dealing.Bar):
            self.assertEqual(arguments(kind.shown), ["self", "votes", "places", "parties", "rule"])

    def test_a_table_has_its_fields(self):
        table = texts.read("a(1)\nb(1) 5")
        self.assertIs(type(table), texts.Table)
        self.assertEqual(sorted(vars(table)), ["columns", "parties", "places", "rows", "votes"])

    def test_things_stand_in_the_file_that_the_interface_tells(self):
        for module, names in (
            (errors, "DealError NoVotes BadLine NoTable BadRule"), (ratios, "ratio times over below"),
            (rules, "Rule Down Half Between"), (single, "dealt"), (dealing, "Answer Dealing Bar woven twin"),
            (rounding, "rounded"), (texts, "Table read written"),
        ):
            for name in names.split():
                self.assertEqual(getattr(module, name).__module__, module.__name__)


class NoClockNoChanceNoFiles(unittest.TestCase):
    def said(self, seed):
        return subprocess.run(
            [sys.executable, "-c", SAID], capture_output=True, text=True, check=True,
            env={"PYTHONHASHSEED": seed, "PYTHONPATH": TOP, "PYTHONDONTWRITEBYTECODE": "1"},
        ).stdout

    def test_each_run_says_the_same(self):
        first = self.said("0")
        self.assertIn("[[", first)
        for seed in ("1", "77", "random"):
            self.assertEqual(self.said(seed), first)

    def test_nothing_of_the_kind_is_asked(self):
        with mock.patch("builtins.open", side_effect=AssertionError), \
                mock.patch("builtins.input", side_effect=AssertionError), \
                mock.patch.object(time, "time", side_effect=AssertionError), \
                mock.patch.object(random, "random", side_effect=AssertionError), \
                mock.patch.object(os, "urandom", side_effect=AssertionError):
            spoken = []
            exec(SAID, {"print": lambda *words: spoken.append(words)})
        self.assertEqual(len(spoken), 2)


if __name__ == "__main__":
    unittest.main()
