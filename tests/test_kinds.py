"""Integers, sequences, names, values and bounds ([2], [3], [7])."""

import unittest

from forestrows.deeds import Cut
from forestrows.forests import Forest
from forestrows.kinds import is_bound, is_integer, is_name, is_sequence, is_value

THINGS = [None, True, False, 0, -1, 10 ** 31, "", "a", "A", b"", b"a", bytearray(b"a"), [], ["a"], (), ("a",),
          {}, {"a": 1}, range(2), len, int, ..., Forest([]), Cut("a"), Cut, slice(1)]


class Kinds(unittest.TestCase):
    def test_integers(self):
        for x in (0, 1, -1, 10 ** 40):
            self.assertIs(is_integer(x), True)
        for x in (True, False, None, "1", b"1", [1], (1,), {}):
            self.assertIs(is_integer(x), False)

    def test_sequences(self):
        for x in ([], (), [1], (1, 2)):
            self.assertIs(is_sequence(x), True)
        for x in ("", "ab", b"", b"ab", {}, range(3), None, 1, Forest([])):
            self.assertIs(is_sequence(x), False)

    def test_names(self):
        for x in ("a", "z", "a0", "z9", "abcdefgh", "a1234567", "none"):
            self.assertIs(is_name(x), True, x)
        for x in ("", "0", "9a", "A", "aB", "a_b", "a-b", "a b", " a", "a ", "abcdefghi", "a.", "a\n",
                  "\u00e9", "a\u00e9", "a\u0660", "a\u00b2", "`", "{", "a/", "a:", "a@"):
            self.assertIs(is_name(x), False, x)

    def test_values(self):
        for x in (0, 1, -1, 10 ** 30, -10 ** 30):
            self.assertIs(is_value(x), True, x)
        for x in (10 ** 30 + 1, -10 ** 30 - 1, True, False, None, "1", [1]):
            self.assertIs(is_value(x), False, x)

    def test_bounds(self):
        for x in (1, 2, 10 ** 30):
            self.assertIs(is_bound(x), True, x)
        for x in (0, -1, 10 ** 30 + 1, True, False, None, "1", [1]):
            self.assertIs(is_bound(x), False, x)

    def test_anything_may_be_asked(self):
        for x in THINGS:
            for ask in (is_integer, is_sequence, is_name, is_value, is_bound):
                self.assertIsInstance(ask(x), bool)
        self.assertEqual([x for x in THINGS if is_name(x)], ["a"])


if __name__ == "__main__":
    unittest.main()
