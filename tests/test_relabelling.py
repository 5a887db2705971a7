"""How key tables change: become and apply, and that as few rows as possible change ([14])."""

import random
import time
import unittest

from forestrows.deeds import Cut, Lift, Move, Put, Reverse, SetValue, Wrap
from forestrows.doing import done
from forestrows.errors import NoDeed
from forestrows.forests import Forest
from forestrows.judging import judge_keys
from forestrows.keys import KeyTable
from forestrows.labels import labels_between, split_key
from forestrows.matching import check_keys, key_certificate
from forestrows.tables import Change
from laying import can_keep_keys, key_cases, key_rows, long_labels, mixed, most_keys_kept
from playing import all_deeds, answers, history
from shapes import all_levels, large_levels, rows_of

RNG = random.Random(3)


class Changes(unittest.TestCase):
    def check(self, table, forest, change_by, fewest=None):
        """The table gets right rows of the forest; the change tells of them; no fewer could have changed."""
        before = table.rows
        proof = key_certificate(table, forest)
        self.assertIs(check_keys(table, forest, proof), True)
        self.assertTrue(can_keep_keys(proof.kept, before, forest.rows))
        common = [name for name in forest if name in table]
        change = change_by()
        old = {row[0]: row for row in before}
        new = {row[0]: row for row in table.rows}
        self.assertIsInstance(change, Change)
        self.assertEqual(change.added, tuple(sorted(new.keys() - old.keys())))
        self.assertEqual(change.gone, tuple(sorted(old.keys() - new.keys())))
        self.assertEqual(change.changed, tuple(sorted(name for name in new if name in old and new[name] != old[name])))
        self.assertIsNone(judge_keys(table.rows))
        self.assertEqual([row[2] for row in table.rows], sorted(row[2] for row in table.rows))
        self.assertEqual(table.forest(), forest)
        self.assertEqual(table.names(), forest.names())
        self.assertEqual(len(change.changed), len(common) - len(proof.kept))
        if fewest is not None:
            self.assertEqual(len(change.changed), fewest, (before, forest.rows))
        return change

    def become(self, before, rows, fewest=None):
        table, forest = KeyTable(before), Forest(rows)
        return self.check(table, forest, lambda: table.become(forest), fewest)

    def apply(self, table, deed, fewest=None):
        return self.check(table, done(table.forest(), deed), lambda: table.apply(deed), fewest)

    def fewest(self, before, rows):
        common = [row for row in rows if row[0] in [one[0] for one in before]]
        return len(common) - most_keys_kept(before, rows)


class Become(Changes):
    def test_against_all_sets_of_names(self):
        for before, rows in key_cases(random.Random(11), 1500):
            self.become(mixed(RNG, before), rows, self.fewest(before, rows))

    def test_an_equal_forest_changes_nothing(self):
        for levels in [*all_levels(4), *large_levels().values()]:
            table = KeyTable(key_rows(RNG, rows_of(levels)))
            before = table.rows
            self.assertEqual(table.become(table.forest()), Change((), (), ()))
            self.assertEqual(table.rows, before)

    def test_to_and_from_no_nodes(self):
        names = tuple(sorted(f"n{place}" for place in range(60)))
        self.assertEqual(self.become([], rows_of([0] * 60)), Change(names, (), ()))
        self.assertEqual(self.become(key_rows(RNG, rows_of(range(60))), []), Change((), names, ()))
        self.assertEqual(self.become([], []), Change((), (), ()))

    def test_a_value_changes_one_row_alone(self):
        for levels in large_levels().values():
            rows = rows_of(levels)
            before = key_rows(RNG, rows)
            rows[30] = (rows[30][0], 5, rows[30][2])
            self.assertEqual(self.become(before, rows), Change((), (), ("n30",)))

    def test_another_parent_takes_the_key(self):
        before = KeyTable.laid(Forest([("a", 1, 0), ("b", 2, 1), ("c", 3, 2), ("d", 4, 1)])).rows
        change = self.become(before, [("x", 9, 0), ("b", 2, 1), ("c", 3, 2), ("d", 4, 1)])
        self.assertEqual(change, Change(("x",), ("a",), ()))

    def test_rows_that_were_read_stay_as_they_were(self):
        table = KeyTable([("a", 1, b"\x02"), ("b", 1, b"\x04")])
        rows, forest = table.rows, Forest([("b", 1, 0), ("a", 1, 1)])
        table.become(forest)
        self.assertEqual((rows, forest.rows), ((("a", 1, b"\x02"), ("b", 1, b"\x04")), (("b", 1, 0), ("a", 1, 1))))


class Apply(Changes):
    def test_all_deeds_on_small_forests(self):
        for levels in [levels for count in range(5) for levels in all_levels(count)]:
            rows = rows_of(levels)
            for deed in all_deeds(rows):
                before = key_rows(RNG, rows)
                self.apply(KeyTable(before), deed, self.fewest(before, done(Forest(rows), deed).rows))

    def test_puts_and_cuts_change_no_row(self):
        for levels in large_levels().values():
            rows = rows_of(levels)[:59]
            for parent in (None, "n0", "n1", "n30", "n58"):
                change = self.apply(KeyTable(key_rows(RNG, rows)), Put("x", 1, parent, 0))
                self.assertEqual(change, Change(("x",), (), ()))
            for name in ("n0", "n30", "n58"):
                self.assertEqual(self.apply(KeyTable(key_rows(RNG, rows)), Cut(name)).changed, ())

    def test_histories(self):
        for seed, levels in enumerate([[], [0, 1, 2], *large_levels().values()]):
            rows = rows_of(levels)
            table = KeyTable.laid(Forest(rows))
            for place, (_, deed, behind) in enumerate(history(70 + seed, 30, rows)):
                self.apply(table, deed)
                if place % 12 == 0:
                    self.assertEqual(answers(table), answers(Forest(behind)))

    def test_large_forests_within_a_short_time(self):
        started = time.process_time()
        for levels in large_levels().values():
            table = KeyTable(key_rows(RNG, rows_of(levels)))
            for deed in (Reverse(None), Move("n59", None, 0), Lift("n0"), Reverse("n1"), Wrap("x", 1, None, 0, 1)):
                table.apply(deed)
                proof = key_certificate(table, table.forest())
                self.assertTrue(check_keys(table, table.forest(), proof))
        self.assertLess(time.process_time() - started, 30)

    def test_no_deed_leaves_the_table_as_it_was(self):
        table = KeyTable([("a", 1, b"\x02"), ("b", 1, b"\x02\x02")])
        rows = table.rows
        for deed, why in ((None, "deed"), (Put("C", 1, None, 0), "name"), (SetValue("a", None), "value"),
                          (Cut("x"), "node"), (Put("a", 1, None, 0), "taken"), (Move("a", "b", 0), "below"),
                          (Put("c", 1, None, 2), "rank"), (Wrap("c", 1, None, 1, 1), "rank")):
            with self.assertRaises(NoDeed) as caught:
                table.apply(deed)
            self.assertEqual((caught.exception.why, table.rows, table.names()), (why, rows, ["a", "b"]))
        full = KeyTable.laid(Forest(rows_of([0] * 60)))
        with self.assertRaises(NoDeed) as caught:
            full.apply(Put("c", 1, None, 0))
        self.assertEqual((caught.exception.why, len(full)), ("many", 60))


class LongLabels(Changes):
    def test_labels_about_a_thousand_bytes_beside_one_another(self):
        for length in (1, 999, 1000, 1001, 1990):
            labels = long_labels(random.Random(length), 10, max(3, length))
            rows = [(f"n{place}", place, label) for place, label in enumerate(labels)]
            for rank in range(11):
                table = KeyTable(rows)
                change = self.apply(table, Put("x", 1, None, rank))
                self.assertEqual(change, Change(("x",), (), ()))
                low, high = labels[rank - 1] if rank else None, labels[rank] if rank < 10 else None
                if all(label is None or len(label) <= 1000 for label in (low, high)):
                    self.assertEqual([table.key_of("x")], labels_between(low, high, 1))
            for deed in (Reverse(None), Move("n9", None, 0), Move("n0", "n9", 0), Wrap("x", 1, None, 2, 8), Cut("n5")):
                self.apply(KeyTable(rows), deed)

    def test_labels_of_several_lengths_beside_one_another(self):
        for start in (b"\x01" * 2000, b"\xff" * 2000, b"\x07\x09" * 1000, b"\x01\xff" * 1000):
            labels = sorted(start[:length - 1] + bytes([last]) for length in (1, 2, 999, 1000, 1001, 1990)
                            for last in (2, 8, 254))
            rows = [(f"n{place}", place, label) for place, label in enumerate(labels)]
            for rank in range(len(rows) + 1):
                table = KeyTable(mixed(RNG, rows))
                self.assertEqual(self.apply(table, Put("x", 1, None, rank)), Change(("x",), (), ()))
                if rank and rank < len(rows) and max(len(labels[rank - 1]), len(labels[rank])) <= 1000:
                    self.assertEqual([table.key_of("x")], labels_between(labels[rank - 1], labels[rank], 1))
            table = KeyTable(rows)
            self.assertEqual(answers(table), answers(table.forest()))
            for deed in (Reverse(None), Wrap("x", 1, None, 3, 15), Move("n0", None, 17)):
                self.apply(KeyTable(rows), deed)

    def test_neighbours_that_leave_no_label_of_their_lengths(self):
        for start in (b"\x01" * 998, b"\x01" * 999, b"\xff" * 999, b"\x03" * 1998, b"\x07\xff" * 999):
            for low, high in ((start + b"\x02", start + b"\x04"), (start + b"\x02", start + b"\x03\x02"),
                              (start + b"\xfc", start + b"\xfe")):
                table = KeyTable([("a", 1, low), ("b", 2, high)])
                change = self.apply(table, Put("x", 1, None, 1))
                self.assertEqual(change.changed, ())
                self.assertTrue(low < table.key_of("x") < high)
                change = self.apply(table, Put("y", 1, None, 1))
                self.assertEqual((change.changed, table.roots()), ((), ["a", "y", "x", "b"]))

    def test_keys_that_a_table_made_grow_beyond_two_thousand_bytes(self):
        start = b"\x01" * 1998
        table = KeyTable([("a", 1, start + b"\x02"), ("b", 2, start + b"\x04")])
        for place in range(20):
            change = self.apply(table, Put(f"n{place}", 1, None, 1 + place % 2))
            self.assertEqual(change, Change((f"n{place}",), (), ()))
        self.assertGreater(max(len(row[2]) for row in table.rows), 2000)
        self.apply(table, Wrap("w", 1, None, 0, 22))
        self.apply(table, Reverse("w"))
        self.apply(table, Lift("w"))
        self.assertEqual(answers(table), answers(table.forest()))
        self.assertEqual([len(split_key(row[2])) for row in table.rows], [1] * 22)


if __name__ == "__main__":
    unittest.main()
