"""Key tables: their rows, errors and answers ([13])."""

import random
import unittest

from forestrows.errors import NoNode, NoTable
from forestrows.forests import Forest
from forestrows.judging import judge_keys
from forestrows.keys import KeyTable
from forestrows.labels import labels_between, split_key
from laying import key_rows, long_labels, mixed
from playing import answers
from shapes import all_rows, rows_of
from tabling import NO_NODES, Tabled

RNG = random.Random(1)


class Keys(Tabled, unittest.TestCase):
    kind = KeyTable
    rows = (("a", 1, b"\x02"), ("b", 2, b"\x02\x02"), ("c", 3, b"\x04"))

    def judge(self, rows):
        return judge_keys(rows)

    def rows_for(self, rows):
        return mixed(RNG, key_rows(RNG, rows))

    def with_value(self, row, name, value):
        return (name, value, row[2]) if row[0] == name else row

    def test_rows_ascend_by_keys(self):
        for table, forest in self.tables():
            self.assertEqual([row[2] for row in table.rows], sorted(row[2] for row in table.rows))
            self.assertEqual([row[:2] for row in table.rows], [row[:2] for row in forest.rows])

    def test_laid(self):
        for rows in all_rows():
            forest = Forest(rows)
            table = KeyTable.laid(forest)
            self.assertIsInstance(table, KeyTable)
            for parent in [None, *forest]:
                children = forest.roots() if parent is None else forest.children_of(parent)
                labels = labels_between(None, None, len(children))
                start = b"" if parent is None else table.key_of(parent)
                self.assertEqual([table.key_of(name) for name in children], [start + label for label in labels])

    def test_laid_by_hand(self):
        table = KeyTable.laid(Forest(rows_of([0, 1, 2, 1, 0])))
        self.assertEqual([row[2] for row in table.rows],
                         [b"\x02", b"\x02\x02", b"\x02\x02\x02", b"\x02\x04", b"\x04"])
        chain = KeyTable.laid(Forest(rows_of(range(60))))
        self.assertEqual(chain.rows[-1], ("n59", (-2) ** 59, b"\x02" * 60))

    def test_key_of(self):
        for table, _ in self.tables():
            for name, _, key in table.rows:
                self.assertEqual((table.key_of(name), table.key_of(name=name)), (key, key))
        for thing in NO_NODES:
            self.no_node(thing, self.small().key_of, thing)
            with self.assertRaises(NoNode):
                KeyTable([]).key_of(thing)

    def test_no_table_with_words_told_by_hand(self):
        for rows, place, why in (
                (None, -1, "rows"), ([None] * 61, -1, "rows"), ([None], 0, "row"), ([("a", 1)], 0, "row"),
                ([*self.rows, ("A", 1, b"\x06")], 3, "name"), ([*self.rows, ("d", True, b"\x06")], 3, "value"),
                ([*self.rows, ("d", 1, b"\x05"), ("a", 1, b"\x04")], 3, "key"),
                ([*self.rows, ("a", 1, b"\x06")], 3, "twice"), ([("d", 1, b"\x04"), *self.rows], 3, "shared"),
                ([("d", 1, b"\x06\x02"), *self.rows], 0, "parent"), (self.rows[1:], 0, "parent"),
                ([("d", 1, b"\x06\x02"), *self.rows, ("e", 1, "e")], 4, "key")):
            with self.assertRaises(NoTable) as caught:
                KeyTable(rows)
            self.assertEqual((caught.exception.place, caught.exception.why), (place, why))

    def test_most_rows(self):
        rows = key_rows(RNG, rows_of([0] * 60))
        self.assertEqual(len(KeyTable(rows)), 60)
        with self.assertRaises(NoTable) as caught:
            KeyTable([*rows, ("x", 1, b"\x01\x01\x01\x01\x01\x02")])
        self.assertEqual((caught.exception.place, caught.exception.why), (-1, "rows"))

    def test_long_labels(self):
        for length in (999, 1000, 1001, 1999):
            labels = long_labels(random.Random(length), 12, length)
            rows = [(f"n{place}", place, label) for place, label in enumerate(labels)]
            if length < 1500:
                rows += [(f"m{place}", 7, labels[place] + b"\x01" * 400 + b"\x02") for place in (0, 5, 11)]
            table = KeyTable(mixed(RNG, rows))
            forest = table.forest()
            self.assertEqual(forest.roots(), [f"n{place}" for place in range(12)])
            self.assertEqual(answers(table), answers(forest))
            self.assertEqual(sorted(table.rows), sorted(rows))
            self.assertEqual([len(split_key(table.key_of(name))) for name in forest],
                             [row[2] + 1 for row in forest.rows])


if __name__ == "__main__":
    unittest.main()
