"""Forests: their rows, NoForest, len, in, iteration, + and equality ([2], [3])."""

import unittest

from forestrows.deeds import Cut, Put
from forestrows.errors import NoForest, Twice
from forestrows.forests import Forest
from shapes import all_rows, large_levels, rows_of

ABC = [("a", 1, 0), ("b", 2, 1), ("c", 3, 0)]
GREAT = 10 ** 30


def fault(rows):
    """The place and the word of the NoForest that these rows raise, or None."""
    try:
        Forest(rows)
    except NoForest as error:
        return error.place, error.why
    return None


class Rows(unittest.TestCase):
    def test_are_kept_as_tuples(self):
        for rows in (ABC, tuple(ABC), [list(row) for row in ABC], tuple(list(row) for row in ABC)):
            forest = Forest(rows)
            self.assertEqual(forest.rows, (("a", 1, 0), ("b", 2, 1), ("c", 3, 0)))
            self.assertIs(type(forest.rows), tuple)
            self.assertTrue(all(type(row) is tuple for row in forest.rows))

    def test_of_all_shapes(self):
        for rows in all_rows():
            self.assertEqual(Forest(rows).rows, tuple(rows))

    def test_without_nodes(self):
        for rows in ([], ()):
            self.assertEqual(Forest(rows).rows, ())

    def test_by_keyword(self):
        self.assertEqual(Forest(rows=ABC).rows, tuple(ABC))

    def test_what_was_handed_in_stays_as_it_was(self):
        rows = [["a", 1, 0], ["b", 2, 1]]
        Forest(rows)
        self.assertEqual(rows, [["a", 1, 0], ["b", 2, 1]])

    def test_what_was_refused_stays_as_it_was(self):
        rows = [["a", 1, 0], ["b", 2, 2]]
        self.assertEqual(fault(rows), (1, "level"))
        self.assertEqual(rows, [["a", 1, 0], ["b", 2, 2]])

    def test_later_changes_have_no_effect(self):
        rows = [["a", 1, 0], ["b", 2, 1]]
        forest = Forest(rows)
        rows[1][0] = "x"
        rows[0][1] = 9
        rows.append(["c", 3, 0])
        self.assertEqual(forest.rows, (("a", 1, 0), ("b", 2, 1)))
        self.assertEqual(forest.names(), ["a", "b"])
        self.assertEqual(len(forest), 2)
        self.assertNotIn("x", forest)

    def test_most(self):
        self.assertEqual(Forest.MOST, 60)
        self.assertEqual(Forest([]).MOST, 60)


class NoRows(unittest.TestCase):
    def test_no_sequence(self):
        for rows in (None, True, 0, 3, "", "abc", b"", b"abc", {}, {0: ("a", 1, 0)}, range(0), iter([]), Forest([])):
            self.assertEqual(fault(rows), (-1, "rows"), rows)

    def test_sixty_rows_are_the_most(self):
        for levels in large_levels().values():
            rows = rows_of(levels)
            self.assertIsNone(fault(rows))
            self.assertEqual(fault(rows + [("x", 0, 0)]), (-1, "rows"))
            self.assertEqual(fault(tuple(rows + [("x", 0, 0)])), (-1, "rows"))

    def test_too_many_goes_ahead_of_wrong_rows(self):
        self.assertEqual(fault([None] * 60), (0, "row"))
        self.assertEqual(fault([None] * 61), (-1, "rows"))


class Words(unittest.TestCase):
    def check(self, row, word):
        """The word of a row that is wrong, at several places, behind right rows and ahead of any."""
        for before in (0, 1, 2, 59):
            right = [(f"n{place}", place, place) for place in range(before)]
            self.assertEqual(fault(right + [row]), (before, word), row)
            self.assertEqual(fault(tuple(right) + (row,)), (before, word), row)
            if before < 59:
                self.assertEqual(fault(right + [row, None]), (before, word), row)

    def test_row(self):
        for row in (None, True, 3, "abc", b"abc", {"a": 1, 1: 2, 0: 3}, range(3), (), [], ("a",), ("a", 1),
                    ["a", 1], ("a", 1, 0, 0), ["a", 1, 0, None], Forest(ABC), Put("a", 1, None, 0)):
            self.check(row, "row")

    def test_name(self):
        for name in (None, True, 1, b"a", "", "A", "1", "1a", "a_", "a b", "abcdefghi", "a\u00e9", ["a"], ("a",), {}):
            self.check((name, 1, 0), "name")
            self.check([name, 1, 0], "name")

    def test_lengths_of_names(self):
        for name in ("a", "ab", "abcdefgh", "z9999999"):
            self.assertIsNone(fault([(name, 1, 0)]))
        self.assertEqual(fault([("z99999999", 1, 0)]), (0, "name"))

    def test_value(self):
        for value in (None, True, False, "1", b"1", GREAT + 1, -GREAT - 1, 10 ** 31, [1], (), {}):
            self.check(("a", value, 0), "value")

    def test_values_at_the_bounds(self):
        rows = [("a", GREAT, 0), ("b", -GREAT, 0), ("c", 0, 0)]
        self.assertEqual(Forest(rows).rows, tuple(rows))

    def test_level(self):
        for level in (None, True, False, "0", b"", -1, 60, 10 ** 40, -10 ** 40, [0], (), {}):
            self.check(("a", 1, level), "level")

    def test_levels_against_the_row_before(self):
        self.assertEqual(fault([("a", 1, 1)]), (0, "level"))
        for level in range(4):
            rows = [("a", 1, 0), ("b", 1, 1), ("c", 1, 2), ("d", 1, level)]
            self.assertIsNone(fault(rows))
        for level in (-1, 4, 5, True):
            rows = [("a", 1, 0), ("b", 1, 1), ("c", 1, 2), ("d", 1, level)]
            self.assertEqual(fault(rows), (3, "level"))
        rows = [("a", 1, 0), ("b", 1, 1), ("c", 1, 2), ("d", 1, 0), ("e", 1, 2)]
        self.assertEqual(fault(rows), (4, "level"))

    def test_twice(self):
        for before in range(1, 60):
            rows = [(f"n{place}", place, place) for place in range(before)]
            for name in ("n0", f"n{before - 1}"):
                self.assertEqual(fault(rows + [(name, 5, 0)]), (before, "twice"))

    def test_the_first_word_that_applies(self):
        first = ("a", 1, 0)
        self.assertEqual(fault([first, ("A", True, 9, 9)]), (1, "row"))
        self.assertEqual(fault([first, ("A", True, 9)]), (1, "name"))
        self.assertEqual(fault([first, ("A", 1, 9)]), (1, "name"))
        self.assertEqual(fault([first, ("A", True, 0)]), (1, "name"))
        self.assertEqual(fault([first, ("a", True, 9)]), (1, "value"))
        self.assertEqual(fault([first, ("b", True, 9)]), (1, "value"))
        self.assertEqual(fault([first, ("a", True, 0)]), (1, "value"))
        self.assertEqual(fault([first, ("a", 1, 9)]), (1, "level"))
        self.assertEqual(fault([first, ("a", 1, 1)]), (1, "twice"))

    def test_the_first_row_that_is_wrong(self):
        first, twice, row, name = ("a", 1, 0), ("a", 1, 0), (), ("", 1, 0)
        value, level = ("b", None, 0), ("c", 1, 2)
        self.assertEqual(fault([first, twice, level, value, name, row]), (1, "twice"))
        self.assertEqual(fault([first, level, value, name, row, twice]), (1, "level"))
        self.assertEqual(fault([first, value, name, row, twice, level]), (1, "value"))
        self.assertEqual(fault([first, name, row, twice, level, value]), (1, "name"))
        self.assertEqual(fault([first, row, twice, level, value, name]), (1, "row"))


class Containers(unittest.TestCase):
    def test_len(self):
        for rows in all_rows():
            self.assertEqual(len(Forest(rows)), len(rows))

    def test_in(self):
        forest = Forest(ABC)
        for name in ("a", "b", "c"):
            self.assertIs(name in forest, True)
        for name in ("d", "aa", "n0"):
            self.assertIs(name in forest, False)
        self.assertIs("a" in Forest([]), False)

    def test_in_for_what_is_no_name(self):
        forest = Forest(ABC)
        for thing in (None, True, 0, 1, "", "A", "abcdefghi", b"a", ["a"], ("a", 1, 0), ("a",), {}, {"a": 1},
                      bytearray(b"a"), range(1), forest, Cut("a"), Cut, Forest, NoForest(0, "row"), len, ...):
            self.assertIs(thing in forest, False)
            self.assertIs(thing not in forest, True)

    def test_iteration(self):
        for rows in all_rows():
            forest = Forest(rows)
            self.assertEqual([name for name in forest], [row[0] for row in rows])
            self.assertEqual(list(forest), list(forest))
        self.assertEqual(list(Forest([])), [])

    def test_iterations_beside_each_other(self):
        forest = Forest(ABC)
        self.assertEqual([one + other for one in forest for other in forest],
                         ["aa", "ab", "ac", "ba", "bb", "bc", "ca", "cb", "cc"])


class Joining(unittest.TestCase):
    def test_rows_behind_rows(self):
        one = Forest(ABC)
        other = Forest([("d", 4, 0), ("e", 5, 1), ("f", -6, 2)])
        self.assertEqual((one + other).rows, one.rows + other.rows)
        self.assertEqual((other + one).rows, other.rows + one.rows)
        self.assertEqual((one + other).roots(), ["a", "c", "d"])
        self.assertEqual((other + one).roots(), ["d", "a", "c"])
        self.assertIsInstance(one + other, Forest)

    def test_leaves_both_as_they_were(self):
        one = Forest(ABC)
        other = Forest([("d", 4, 0)])
        kept = one
        one += other
        self.assertEqual(kept.rows, tuple(ABC))
        self.assertEqual(other.rows, (("d", 4, 0),))
        self.assertEqual(one.names(), ["a", "b", "c", "d"])

    def test_with_no_nodes(self):
        none = Forest([])
        self.assertEqual(none + none, none)
        self.assertEqual(none + Forest(ABC), Forest(ABC))
        self.assertEqual(Forest(ABC) + none, Forest(ABC))

    def test_twice(self):
        one = Forest([("a", 1, 0), ("b", 2, 1), ("c", 3, 0)])
        other = Forest([("d", 1, 0), ("c", 2, 0), ("b", 2, 0), ("a", 2, 0)])
        with self.assertRaises(Twice) as caught:
            one + other
        self.assertEqual(caught.exception.name, "c")
        with self.assertRaises(Twice) as caught:
            other + one
        self.assertEqual(caught.exception.name, "a")
        with self.assertRaises(Twice) as caught:
            one + one
        self.assertEqual(caught.exception.name, "a")
        self.assertEqual(one.names() + other.names(), ["a", "b", "c", "d", "c", "b", "a"])

    def test_sixty_and_sixty_one(self):
        for count in range(61):
            one = Forest([(f"a{place}", 0, 0) for place in range(count)])
            other = Forest([(f"b{place}", 0, 0) for place in range(60 - count)])
            self.assertEqual(len(one + other), 60)
            more = Forest([(f"b{place}", 0, 0) for place in range(min(60, 61 - count))])
            if count > 0:
                with self.assertRaises(NoForest) as caught:
                    one + more
                self.assertEqual((caught.exception.place, caught.exception.why), (-1, "rows"))

    def test_twice_goes_ahead_of_too_many(self):
        full = Forest([(f"a{place}", 0, 0) for place in range(60)])
        with self.assertRaises(Twice) as caught:
            full + Forest([("b", 0, 0), ("a59", 0, 0), ("a0", 0, 0)])
        self.assertEqual(caught.exception.name, "a59")


class Equality(unittest.TestCase):
    def test_with_forests(self):
        self.assertTrue(Forest(ABC) == Forest([list(row) for row in ABC]))
        self.assertFalse(Forest(ABC) != Forest(tuple(ABC)))
        self.assertTrue(Forest([]) == Forest(()))
        for rows in ([], ABC[:2], ABC[:1] + ABC[2:], [("a", 1, 0), ("b", 2, 0), ("c", 3, 0)],
                     [("a", 1, 0), ("b", 2, 1), ("c", 4, 0)], [("a", 1, 0), ("b", 2, 1), ("d", 3, 0)]):
            self.assertIs(Forest(ABC) == Forest(rows), False)
            self.assertIs(Forest(ABC) != Forest(rows), True)

    def test_with_anything_else(self):
        for forest in (Forest(ABC), Forest([])):
            for thing in (forest.rows, list(forest.rows), forest.names(), len(forest), None, True, False, 0, "",
                          "a", b"", [], (), {}, Cut("a"), Forest, NoForest(-1, "rows")):
                self.assertIs(forest == thing, False)
                self.assertIs(thing == forest, False)
                self.assertIs(forest != thing, True)


if __name__ == "__main__":
    unittest.main()
