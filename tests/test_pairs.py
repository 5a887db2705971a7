"""Pair tables: their rows, errors, answers and changes ([16])."""

import random
import unittest

from forestrows.deeds import Cut, Lift, Move, Put, Reverse, SetValue, Wrap
from forestrows.doing import done
from forestrows.errors import NoDeed, NoTable
from forestrows.forests import Forest
from forestrows.judging import judge_pairs
from forestrows.pairs import PairTable
from forestrows.tables import Change
from laying import mixed, pair_rows
from playing import all_deeds, answers, history
from shapes import all_levels, all_rows, large_levels, rows_of
from tabling import Tabled

RNG = random.Random(2)


class Pairs(Tabled, unittest.TestCase):
    kind = PairTable
    rows = (("a", "a", 0, 0, 1), ("a", "b", 1, 0, 2), ("b", "b", 0, 0, 2), ("c", "c", 0, 1, 3))

    def judge(self, rows):
        return judge_pairs(rows)

    def rows_for(self, rows):
        return mixed(RNG, pair_rows(rows))

    def with_value(self, row, name, value):
        return (*row[:4], value) if row[1] == name else row

    def test_laid_has_all_rows_and_they_ascend(self):
        for rows in all_rows():
            table = PairTable.laid(Forest(rows))
            self.assertIsInstance(table, PairTable)
            self.assertEqual(table.rows, tuple(sorted(pair_rows(rows))))
            self.assertEqual(len(table.rows), sum(row[2] + 1 for row in rows))
            self.assertEqual(len(table), len(rows))

    def test_a_path_of_sixty(self):
        rows = rows_of(range(60))
        table = PairTable(mixed(RNG, pair_rows(rows)))
        self.assertEqual((len(table.rows), len(table), table.height()), (1830, 60, 60))
        self.assertEqual(answers(table), answers(Forest(rows)))
        table["n59"] = 5
        self.assertEqual(len([row for row in table.rows if row[4] == 5]), 60)
        change = table.apply(Reverse(None))
        self.assertEqual(change, Change((), (), ()))
        change = table.apply(Lift("n0"))
        self.assertEqual((len(change.added), len(change.gone), len(change.changed)), (0, 60, 0))

    def test_no_table_with_words_told_by_hand(self):
        a, b, aa, bb = ("a", "b", 1, 0, 2), ("b", "c", 1, 0, 3), ("a", "a", 0, 0, 1), ("b", "b", 0, 0, 2)
        cc, ac = ("c", "c", 0, 0, 3), ("a", "c", 2, 0, 3)
        for rows, place, why in (
                (None, -1, "rows"), ([None] * 1831, -1, "rows"), ([None] * 1830, 0, "row"),
                ([aa, ("a", "B", 1, 0, 1)], 1, "name"), ([aa, ("a", "b", 1, 0, None)], 1, "value"),
                ([aa, ("a", "b", 0, 0, 1)], 1, "steps"), ([aa, ("a", "b", 1, -1, 1)], 1, "rank"),
                ([aa, aa], 1, "twice"), ([(f"n{k}", f"n{k}", 0, k, 0) for k in range(60)] + [aa], 60, "many"),
                ([aa, a], 1, "self"), ([ac, aa, cc], 0, "line"), ([aa, a, bb, b, cc], 3, "gap"),
                ([aa, bb, cc, a, b, ("a", "c", 2, 1, 3)], 5, "ranks"),
                ([aa, bb, cc, a, b, ("a", "c", 2, 0, 4)], 5, "values"), ([("a", "a", 0, 1, 1)], 0, "order")):
            with self.assertRaises(NoTable) as caught:
                PairTable(rows)
            self.assertEqual((caught.exception.place, caught.exception.why), (place, why))
        self.assertEqual(PairTable([aa, bb, cc, a, b, ac]).names(), ["a", "b", "c"])


class Changes(unittest.TestCase):
    def check(self, before, table, change, rows):
        """The table has the rows of the forest, and the change tells what is new, gone and another one."""
        old = {row[:2]: row for row in before}
        new = {row[:2]: row for row in pair_rows(rows)}
        self.assertEqual(table.rows, tuple(sorted(new.values())))
        self.assertIsInstance(change, Change)
        self.assertEqual(change.added, tuple(sorted(new.keys() - old.keys())))
        self.assertEqual(change.gone, tuple(sorted(old.keys() - new.keys())))
        self.assertEqual(change.changed, tuple(sorted(key for key in new if key in old and new[key] != old[key])))
        for field in (change.added, change.gone, change.changed):
            self.assertTrue(all(type(pair) is tuple and len(pair) == 2 for pair in field))
        self.assertEqual(table.forest().rows, tuple(rows))

    def test_all_deeds_on_small_forests(self):
        for levels in [levels for count in range(6) for levels in all_levels(count)]:
            rows = rows_of(levels)
            forest = Forest(rows)
            for deed in all_deeds(rows):
                table = PairTable(mixed(RNG, pair_rows(rows)))
                before = table.rows
                self.check(before, table, table.apply(deed), done(forest, deed).rows)

    def test_become(self):
        shapes = [rows_of(levels) for levels in [[], [0], *all_levels(4), *large_levels().values()]]
        for one in shapes:
            other = RNG.choice(shapes)
            table = PairTable.laid(Forest(one))
            before = table.rows
            self.check(before, table, table.become(Forest(other)), other)
            self.assertEqual(table.become(table.forest()), Change((), (), ()))
            self.assertEqual(answers(table), answers(Forest(other)))

    def test_histories(self):
        for seed, levels in enumerate([[], *large_levels().values()]):
            rows = rows_of(levels)
            table = PairTable.laid(Forest(rows))
            for place, (_, deed, behind) in enumerate(history(60 + seed, 60, rows)):
                before = table.rows
                self.check(before, table, table.apply(deed), behind)
                if place % 12 == 0:
                    self.assertEqual(answers(table), answers(Forest(behind)))

    def test_how_many_rows_a_put_changes(self):
        for levels in [*all_levels(5), large_levels()["zigzag"][:59]]:
            forest = Forest(rows_of(levels))
            for parent in [None, *forest]:
                children = forest.roots() if parent is None else forest.children_of(parent)
                for rank in range(len(children) + 1):
                    change = PairTable.laid(forest).apply(Put("x", 1, parent, rank))
                    level = 0 if parent is None else forest.level_of(parent) + 1
                    later = sum(forest.size_of(name) for name in children[rank:])
                    self.assertEqual((len(change.added), change.gone, len(change.changed)), (level + 1, (), later))

    def test_by_hand(self):
        table = PairTable.laid(Forest([("a", 1, 0), ("b", 2, 1), ("c", 3, 0)]))
        self.assertEqual(table.apply(Put("d", 4, "a", 0)), Change((("a", "d"), ("d", "d")), (), (("b", "b"),)))
        self.assertEqual(table.apply(SetValue("b", 5)), Change((), (), (("a", "b"), ("b", "b"))))
        self.assertEqual(table.apply(Move("b", "d", 0)),
                         Change((("d", "b"),), (), (("a", "b"), ("b", "b"))))
        self.assertEqual(table.apply(Wrap("e", 0, None, 0, 1)),
                         Change((("e", "a"), ("e", "b"), ("e", "d"), ("e", "e")), (), ()))
        self.assertEqual(table.apply(Cut("d")), Change((), (("a", "b"), ("a", "d"), ("b", "b"), ("d", "b"), ("d", "d"),
                                                            ("e", "b"), ("e", "d")), ()))

    def test_no_deed_leaves_the_table_as_it_was(self):
        table = PairTable.laid(Forest([("a", 1, 0), ("b", 2, 1)]))
        rows = table.rows
        for deed, why in ((None, "deed"), (Put("C", 1, None, 0), "name"), (SetValue("a", None), "value"),
                          (Cut("x"), "node"), (Put("a", 1, None, 0), "taken"), (Move("a", "b", 0), "below"),
                          (Put("c", 1, None, 2), "rank")):
            with self.assertRaises(NoDeed) as caught:
                table.apply(deed)
            self.assertEqual((caught.exception.why, table.rows, table.names()), (why, rows, ["a", "b"]))
        full = PairTable.laid(Forest(rows_of(range(60))))
        with self.assertRaises(NoDeed) as caught:
            full.apply(Put("c", 1, None, 0))
        self.assertEqual((caught.exception.why, len(full.rows)), ("many", 1830))


if __name__ == "__main__":
    unittest.main()
