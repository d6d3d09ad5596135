"""The errors of the interface: their kinds, and what BadLine holds."""

import unittest

from seatweave.errors import BadLine, BadRule, DealError, NoTable, NoVotes

REFUSALS = (NoVotes, BadLine, NoTable, BadRule)


def made(refusal):
    return BadLine(3) if refusal is BadLine else refusal()


class Kinds(unittest.TestCase):
    def test_deal_error_stands_right_beneath_value_error(self):
        self.assertEqual(DealError.__bases__, (ValueError,))

    def test_each_is_a_deal_error_and_a_value_error(self):
        for refusal in REFUSALS:
            with self.subTest(refusal=refusal.__name__):
                self.assertIsInstance(made(refusal), DealError)
                self.assertIsInstance(made(refusal), ValueError)

    def test_none_is_beneath_another(self):
        for one in REFUSALS:
            for other in REFUSALS:
                with self.subTest(one=one.__name__, other=other.__name__):
                    self.assertEqual(issubclass(one, other), one is other)

    def test_deal_error_is_none_of_them(self):
        for refusal in REFUSALS:
            self.assertFalse(issubclass(DealError, refusal))

    def test_each_is_caught_by_its_own_name_and_by_the_shared_ones(self):
        for refusal in REFUSALS:
            for taken in (refusal, DealError, ValueError):
                with self.subTest(refusal=refusal.__name__, taken=taken.__name__):
                    with self.assertRaises(taken):
                        raise made(refusal)

    def test_words_may_be_given(self):
        for refusal in (DealError, NoVotes, NoTable, BadRule):
            self.assertIn("some words", str(refusal("some words")))


class Lines(unittest.TestCase):
    def test_bad_line_has_its_line_when_made(self):
        for line in (0, 1, 12, 1000000):
            error = BadLine(line)
            self.assertEqual(error.line, line)
            self.assertIs(type(error.line), int)

    def test_two_bad_lines_keep_a_line_each(self):
        first = BadLine(1)
        second = BadLine(2)
        self.assertEqual((first.line, second.line), (1, 2))

    def test_the_line_is_there_where_it_is_taken(self):
        with self.assertRaises(BadLine) as taken:
            raise BadLine(7)
        self.assertEqual(taken.exception.line, 7)

    def test_the_class_and_the_others_have_no_line(self):
        self.assertFalse(hasattr(BadLine, "line"))
        for refusal in (DealError, NoVotes, NoTable, BadRule):
            self.assertFalse(hasattr(refusal(), "line"))


if __name__ == "__main__":
    unittest.main()
