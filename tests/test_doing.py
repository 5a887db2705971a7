"""What deeds do, the words of NoDeed and NoDeeds, and the way back ([2], [5], [6])."""

import copy
import unittest

from forestrows.deeds import Cut, Lift, Move, Put, Reverse, SetValue, Wrap
from forestrows.doing import done, played, undoing
from forestrows.errors import NoDeed, NoDeeds
from forestrows.forests import Forest
from playing import all_deeds, performed
from shapes import all_levels, large_levels, rows_of

GREAT = 10 ** 30
ROWS = (("a", 1, 0), ("b", 2, 1), ("c", 3, 2), ("d", 4, 1), ("e", 5, 0))
NO_DEEDS = [None, True, 0, -1, "", "cut", b"cut", [], ["cut", "a"], ("a",), {}, Forest(ROWS), Put, Cut, len, ...,
            NoDeed("name"), [Cut("a")], (Cut("a"),)]
NO_NAMES = [None, True, 0, "", "A", "1", "abcdefghi", "a b", b"a", ["a"], ("a",), {}, Forest([])]
NO_VALUES = [None, True, False, "1", b"1", GREAT + 1, -GREAT - 1, [1], (), {}, Forest([])]
NO_NODES = [True, False, 0, 1, "", "x", "A", "abcdefgh", "abcdefghi", b"a", ["a"], ("a",), {}, {"a": 1}, Cut("a"),
            Forest([])]
NO_NUMBERS = [None, True, False, "0", b"0", [0], (0,), {}, -1, -GREAT, GREAT, Forest([])]


def word(forest, deed):
    """The word of NoDeed, or None, which `done`, `undoing` and `played` agree on."""
    found = []
    for call in (done, undoing):
        try:
            call(forest, deed)
            found.append(None)
        except NoDeed as error:
            found.append(error.why)
    try:
        played(forest, [deed])
        found.append(None)
    except NoDeeds as error:
        assert error.place == 0
        found.append(error.why)
    assert found == found[:1] * 3, found
    return found[0]


def large_rows(count):
    """The rows of forests of several shapes with so many nodes."""
    return {name: rows_of(levels[:count]) for name, levels in large_levels().items()}


def spread(deeds, count):
    """So many of the deeds, or all of them, from all kinds."""
    return deeds[::max(1, len(deeds) // count)]


class Deeds(unittest.TestCase):
    def check(self, rows, deed):
        forest = Forest(rows)
        fields = dict(vars(deed))
        behind = done(forest, deed)
        self.assertIsInstance(behind, Forest)
        self.assertEqual(vars(deed), fields)
        self.assertEqual(behind.rows, performed(rows, deed), (rows, vars(deed)))
        self.assertEqual(forest.rows, tuple(rows))

    def test_all_deeds_on_all_small_forests(self):
        for count in range(6):
            for levels in all_levels(count):
                rows = rows_of(levels)
                for deed in all_deeds(rows):
                    self.check(rows, deed)

    def test_deeds_on_large_forests(self):
        for rows in large_rows(59).values():
            for deed in spread(all_deeds(rows), 400):
                self.check(rows, deed)

    def test_deeds_on_full_forests(self):
        for rows in large_rows(60).values():
            deeds = [deed for deed in all_deeds(rows) if not isinstance(deed, (Put, Wrap))]
            for deed in spread(deeds, 400):
                self.check(rows, deed)

    def rows_behind(self, deed, rows=ROWS):
        self.check(rows, deed)
        return [(name, level) for name, _, level in done(Forest(rows), deed).rows]

    def test_put(self):
        abcde = [("a", 0), ("b", 1), ("c", 2), ("d", 1), ("e", 0)]
        for deed, at, level in ((Put("x", 9, None, 0), 0, 0), (Put("x", 9, None, 1), 4, 0),
                                (Put("x", 9, None, 2), 5, 0), (Put("x", 9, "a", 0), 1, 1),
                                (Put("x", 9, "a", 1), 3, 1), (Put("x", 9, "a", 2), 4, 1),
                                (Put("x", 9, "c", 0), 3, 3), (Put("x", 9, "e", 0), 5, 1)):
            self.assertEqual(self.rows_behind(deed), abcde[:at] + [("x", level)] + abcde[at:])
        self.assertEqual(done(Forest([]), Put("x", -GREAT, None, 0)).rows, (("x", -GREAT, 0),))

    def test_move(self):
        self.assertEqual(self.rows_behind(Move("b", "e", 0)), [("a", 0), ("d", 1), ("e", 0), ("b", 1), ("c", 2)])
        self.assertEqual(self.rows_behind(Move("b", "a", 1)), [("a", 0), ("d", 1), ("b", 1), ("c", 2), ("e", 0)])
        self.assertEqual(self.rows_behind(Move("c", None, 2)), [("a", 0), ("b", 1), ("d", 1), ("e", 0), ("c", 0)])
        self.assertEqual(self.rows_behind(Move("a", "e", 0)), [("e", 0), ("a", 1), ("b", 2), ("c", 3), ("d", 2)])

    def test_a_subtree_moved_to_where_it_was(self):
        for rows in [ROWS, *large_rows(60).values()]:
            forest = Forest(rows)
            for name in forest:
                deed = Move(name, forest.parent_of(name), forest.rank_of(name))
                self.assertEqual(done(forest, deed), forest)

    def test_cut(self):
        self.assertEqual(self.rows_behind(Cut("a")), [("e", 0)])
        self.assertEqual(self.rows_behind(Cut("b")), [("a", 0), ("d", 1), ("e", 0)])
        self.assertEqual(done(Forest(rows_of(range(60))), Cut("n0")).rows, ())

    def test_lift_of_roots_and_leaves(self):
        self.assertEqual(self.rows_behind(Lift("a")), [("b", 0), ("c", 1), ("d", 0), ("e", 0)])
        self.assertEqual(self.rows_behind(Lift("c")), [("a", 0), ("b", 1), ("d", 1), ("e", 0)])
        self.assertEqual(self.rows_behind(Lift("e")), [("a", 0), ("b", 1), ("c", 2), ("d", 1)])
        self.assertEqual(done(Forest([("a", 1, 0)]), Lift("a")).rows, ())

    def test_wrap(self):
        self.assertEqual(done(Forest(ROWS), Wrap("w", 9, "a", 0, 2)).rows,
                         (("a", 1, 0), ("w", 9, 1), ("b", 2, 2), ("c", 3, 3), ("d", 4, 2), ("e", 5, 0)))
        self.assertEqual(self.rows_behind(Wrap("w", 9, None, 1, 2)),
                         [("a", 0), ("b", 1), ("c", 2), ("d", 1), ("w", 0), ("e", 1)])

    def test_reverse(self):
        self.assertEqual(self.rows_behind(Reverse("a")), [("a", 0), ("d", 1), ("b", 1), ("c", 2), ("e", 0)])
        self.assertEqual(self.rows_behind(Reverse(None)), [("e", 0), ("a", 0), ("b", 1), ("c", 2), ("d", 1)])
        self.assertEqual(self.rows_behind(Reverse("c")), [row[::2] for row in ROWS])
        self.assertEqual(done(Forest([]), Reverse(None)), Forest([]))

    def test_set_value(self):
        for value in (GREAT, -GREAT, 0, 3):
            rows = tuple((name, value if name == "c" else old, level) for name, old, level in ROWS)
            self.assertEqual(done(Forest(ROWS), SetValue("c", value)).rows, rows)

    def test_by_keyword(self):
        forest = Forest(ROWS)
        self.assertEqual(done(deed=Cut("a"), forest=forest), done(forest, Cut("a")))
        self.assertEqual(undoing(deed=Cut("e"), forest=forest), [Put("e", 5, None, 1)])
        self.assertEqual(played(deeds=[Cut("e")], forest=forest), [forest, Forest(ROWS[:4])])


class Words(unittest.TestCase):
    def check(self, deed, why, rows=ROWS):
        forest = Forest(rows)
        before = copy.deepcopy(vars(deed)) if hasattr(deed, "__dict__") and not isinstance(deed, type) else None
        self.assertEqual(word(forest, deed), why, before)
        self.assertEqual(forest.rows, tuple(rows))
        if before is not None and not isinstance(deed, Exception):
            self.assertEqual(vars(deed), before)

    def test_deed(self):
        for thing in NO_DEEDS:
            for rows in (ROWS, ()):
                self.check(thing, "deed", rows)

    def test_name(self):
        for name in NO_NAMES:
            self.check(Put(name, 1, None, 0), "name")
            self.check(Wrap(name, 1, None, 0, 1), "name")

    def test_value(self):
        for value in NO_VALUES:
            self.check(Put("x", value, None, 0), "value")
            self.check(Wrap("x", value, None, 0, 1), "value")
            self.check(SetValue("a", value), "value")
        for value in (GREAT, -GREAT):
            self.check(Put("x", value, None, 0), None)
            self.check(Wrap("x", value, None, 0, 1), None)
            self.check(SetValue("a", value), None)

    def test_node(self):
        for thing in NO_NODES:
            self.check(Move("a", thing, 0), "node")
            self.check(Put("x", 1, thing, 0), "node")
            self.check(Wrap("x", 1, thing, 0, 1), "node")
            self.check(Reverse(thing), "node")
        for thing in [None, *NO_NODES]:
            self.check(Move(thing, None, 0), "node")
            self.check(Cut(thing), "node")
            self.check(Lift(thing), "node")
            self.check(SetValue(thing, 1), "node")

    def test_node_of_a_forest_without_nodes(self):
        for deed in (Put("a", 1, "a", 0), Move("a", None, 0), Cut("a"), Lift("a"), Wrap("a", 1, "a", 0, 1),
                     Reverse("a"), SetValue("a", 1)):
            self.check(deed, "node", ())

    def test_taken(self):
        for name in "abcde":
            self.check(Put(name, 1, None, 0), "taken")
            self.check(Put(name, 1, name, 0), "taken")
            self.check(Wrap(name, 1, None, 0, 1), "taken")

    def test_below(self):
        for name, parent in (("a", "a"), ("a", "b"), ("a", "c"), ("a", "d"), ("b", "b"), ("b", "c"), ("e", "e")):
            self.check(Move(name, parent, 0), "below")
        for name, parent in (("b", "a"), ("b", "d"), ("b", "e"), ("d", "c"), ("e", "c"), ("c", "d")):
            self.check(Move(name, parent, 0), None)
        self.check(Move("n0", "n59", 0), "below", rows_of(range(60)))
        self.check(Move("n58", "n59", 0), "below", rows_of(range(60)))

    def test_rank_of_a_put(self):
        for parent, count in ((None, 2), ("a", 2), ("b", 1), ("c", 0)):
            for rank in range(count + 1):
                self.check(Put("x", 1, parent, rank), None)
            for rank in [count + 1, *NO_NUMBERS]:
                self.check(Put("x", 1, parent, rank), "rank")

    def test_rank_of_a_move_counts_without_the_moved_node(self):
        for name, parent, count in (("b", "a", 1), ("d", "a", 1), ("c", "a", 2), ("e", "a", 2), ("c", "b", 0),
                                    ("d", "b", 1), ("a", None, 1), ("b", None, 2), ("a", "e", 0)):
            for rank in range(count + 1):
                self.check(Move(name, parent, rank), None)
            for rank in [count + 1, *NO_NUMBERS]:
                self.check(Move(name, parent, rank), "rank")

    def test_rank_of_a_wrap(self):
        for parent, count in ((None, 2), ("a", 2), ("b", 1), ("c", 0)):
            for first in range(-1, 4):
                for last in range(-1, 4):
                    why = None if 0 <= first < last <= count else "rank"
                    self.check(Wrap("x", 1, parent, first, last), why)
        for thing in NO_NUMBERS:
            self.check(Wrap("x", 1, "a", thing, 2), "rank")
            self.check(Wrap("x", 1, "a", 0, thing), "rank")
            self.check(Wrap("x", 1, "a", thing, thing), "rank")

    def test_flags_are_no_ranks(self):
        self.check(Put("x", 1, "a", 1), None)
        self.check(Put("x", 1, "a", True), "rank")
        self.check(Put("x", 1, "a", False), "rank")
        self.check(Wrap("x", 1, "a", False, 1), "rank")
        self.check(Wrap("x", 1, "a", 0, True), "rank")

    def test_many(self):
        for count, why in ((58, None), (59, None), (60, "many")):
            for rows in large_rows(count).values():
                self.check(Put("x", 1, None, 0), why, rows)
                self.check(Put("x", 1, "n0", 0), why, rows)
                self.check(Wrap("x", 1, None, 0, 1), why, rows)
                self.check(Move("n1", None, 0), None, rows)
        self.assertEqual(len(done(Forest(rows_of([0] * 59)), Put("x", 1, None, 59))), 60)

    def test_the_first_word_of_a_put_and_of_a_wrap(self):
        full = rows_of([0] * 60)
        for why, name, value, parent, rank in (
                ("name", "N", None, "x", -1), ("name", "N", 1, None, 0), ("value", "n1", None, "x", -1),
                ("value", "x", None, None, 0), ("node", "n1", 1, "x", -1), ("node", "x", 1, "x", 0),
                ("taken", "n1", 1, None, -1), ("taken", "n1", 1, None, 0), ("rank", "x", 1, None, -1),
                ("rank", "x", 1, None, 61), ("many", "x", 1, None, 0)):
            self.check(Put(name, value, parent, rank), why, full)
            self.check(Wrap(name, value, parent, rank, rank + 1), why, full)

    def test_the_first_word_of_a_move(self):
        for deed, why in ((Move("x", "y", -1), "node"), (Move("a", "y", -1), "node"), (Move("x", "a", -1), "node"),
                          (Move("a", "b", -1), "below"), (Move("a", "a", None), "below"),
                          (Move("a", None, 2), "rank")):
            self.check(deed, why)

    def test_the_first_word_of_a_set_value(self):
        self.check(SetValue("x", None), "value")
        self.check(SetValue(None, True), "value")
        self.check(SetValue("x", 1), "node")


class Played(unittest.TestCase):
    def test_the_forests_behind_the_first_deeds(self):
        deeds = [Put("x", 9, "a", 1), Lift("b"), Wrap("w", 0, None, 0, 2), Reverse("w"), Move("c", "e", 0),
                 SetValue("e", 6), Cut("a")]
        rows = [ROWS]
        for deed in deeds:
            rows.append(performed(rows[-1], deed))
        forest = Forest(ROWS)
        for given in (deeds, tuple(deeds)):
            self.assertEqual([one.rows for one in played(forest, given)], rows)
        self.assertEqual(forest, Forest(ROWS))
        self.assertEqual(len(deeds), 7)

    def test_without_deeds(self):
        for deeds in ([], ()):
            self.assertEqual(played(Forest(ROWS), deeds), [Forest(ROWS)])

    def test_each_list_is_new(self):
        forest = Forest(ROWS)
        first = played(forest, [Cut("e")])
        first.append(None)
        first[0] = None
        self.assertEqual(played(forest, [Cut("e")]), [Forest(ROWS), Forest(ROWS[:4])])

    def test_what_is_no_sequence(self):
        for thing in (None, True, 0, "", "ab", b"", b"ab", {}, {0: Cut("a")}, range(0), Cut("a"), Forest([]), Put):
            with self.assertRaises(NoDeeds) as caught:
                played(Forest(ROWS), thing)
            self.assertEqual((caught.exception.place, caught.exception.why), (-1, "deeds"))

    def test_the_first_deed_that_cannot_be_done(self):
        for before in range(5):
            right = [Cut("e"), Lift("b"), Reverse("a"), SetValue("d", 0), Put("e", 1, None, 1)][:before]
            for deed, why in ((None, "deed"), (Put("E", 1, None, 0), "name"), (SetValue("a", None), "value"),
                              (Cut("x"), "node"), (Put("a", 1, None, 0), "taken"), (Move("a", "a", 0), "below"),
                              (Wrap("x", 1, None, 1, 1), "rank")):
                for behind in ([], [None], [Cut("y"), 3]):
                    deeds = right + [deed] + behind
                    kept = list(deeds)
                    with self.assertRaises(NoDeeds) as caught:
                        played(Forest(ROWS), deeds)
                    self.assertEqual((caught.exception.place, caught.exception.why), (before, why))
                    self.assertEqual(deeds, kept)

    def test_deeds_are_judged_by_the_forest_behind_the_earlier_ones(self):
        self.assertEqual(len(played(Forest([]), [Put("a", 1, None, 0), Put("b", 1, "a", 0), Cut("b"), Cut("a")])), 5)
        for deeds, place, why in (([Cut("a"), Cut("b")], 1, "node"), ([Put("x", 1, None, 0)] * 2, 1, "taken"),
                                  ([Put(f"x{k}", 1, None, 0) for k in range(60)], 55, "many")):
            with self.assertRaises(NoDeeds) as caught:
                played(Forest(ROWS), deeds)
            self.assertEqual((caught.exception.place, caught.exception.why), (place, why))


class Undoing(unittest.TestCase):
    def check(self, rows, deed):
        forest = Forest(rows)
        back = undoing(forest, deed)
        self.assertIs(type(back), list)
        self.assertLessEqual(len(back), 61)
        self.assertEqual(played(done(forest, deed), back)[-1].rows, forest.rows, (rows, vars(deed)))
        again = undoing(forest, deed)
        self.assertEqual(again, back)
        again.append(None)
        self.assertEqual(undoing(forest, deed), back)

    def test_all_deeds_on_all_small_forests(self):
        for count in range(5):
            for levels in all_levels(count):
                rows = rows_of(levels)
                for deed in all_deeds(rows):
                    self.check(rows, deed)

    def test_deeds_that_make_the_last_node(self):
        for rows in large_rows(59).values():
            deeds = [deed for deed in all_deeds(rows) if isinstance(deed, (Put, Wrap))]
            for deed in spread(deeds, 60):
                self.check(rows, deed)

    def test_deeds_on_full_forests(self):
        for rows in large_rows(60).values():
            deeds = [deed for deed in all_deeds(rows) if not isinstance(deed, (Put, Wrap))]
            for deed in spread(deeds, 100) + [Cut("n0"), Lift("n0"), Lift("n59"), Reverse(None), Reverse("n0")]:
                self.check(rows, deed)

    def test_a_whole_forest_that_is_cut(self):
        for levels in ([0] + [1] * 59, list(range(60))):
            self.check(rows_of(levels), Cut("n0"))


if __name__ == "__main__":
    unittest.main()
