"""Certificates for keys ([15])."""

import random
import unittest

from forestrows.deeds import Cut
from forestrows.errors import Full
from forestrows.forests import Forest
from forestrows.keys import KeyTable
from forestrows.labels import split_key
from forestrows.matching import check_keys, key_certificate
from forestrows.tables import Certificate, Change
from laying import can_keep_keys, key_cases, key_rows, most_keys_kept, walk_of
from playing import history
from proofs import changed
from shapes import large_levels, rows_of, zigzag


class Slow:
    """What matches, what fits, and the conditions, word by word as the document has them."""

    def __init__(self, table, rows):
        self.table = table
        self.forest = {tree.name: tree for tree in walk_of(rows)}
        levels = [len(split_key(row[2])) - 1 for row in table.rows]
        self.old = {tree.name: tree for tree in walk_of([(row[0], row[1], level)
                                                         for row, level in zip(table.rows, levels)])}
        self.pairs = [(x, y) for x in self.forest for y in self.old if self.level(self.forest, x)
                      == self.level(self.old, y)]

    def level(self, trees, name):
        return len(trees[name].above())

    def children(self, trees, name):
        return [child.name for child in trees[name].children]

    def behind(self, trees, name):
        """The sibling behind a node, or None."""
        tree = trees[name]
        siblings = tree.parent.children if tree.parent else [one for one in trees.values() if not one.parent]
        place = siblings.index(tree) + 1
        return siblings[place].name if place < len(siblings) else None

    def match(self, x, y):
        return x == y and self.forest[x].value == self.old[y].value

    def at_level(self, trees, name, level):
        """The node of a level in whose subtree a node stands."""
        return [*trees[name].above(), trees[name]][level].name

    def fit(self, names):
        for one in names:
            if not (one in self.forest and one in self.old and (one, one) in self.pairs and self.match(one, one)):
                return False
        places = [list(self.forest), list(self.old)]
        for one in names:
            for other in names:
                for level in range(min(self.level(self.forest, one), self.level(self.forest, other)) + 1):
                    x, x2 = self.at_level(self.forest, one, level), self.at_level(self.forest, other, level)
                    y, y2 = self.at_level(self.old, one, level), self.at_level(self.old, other, level)
                    if (x == x2) is not (y == y2):
                        return False
                    if x != x2 and ((places[0].index(x) < places[0].index(x2))
                                    is not (places[1].index(y) < places[1].index(y2))):
                        return False
        return True

    def holds(self, thing):
        if not isinstance(thing, Certificate) or not isinstance(thing.kept, tuple):
            return False
        if not all(isinstance(name, str) for name in thing.kept) or len(set(thing.kept)) < len(thing.kept):
            return False
        w, h = thing.worths, thing.heights
        if not self.fit(thing.kept) or not isinstance(w, dict) or not isinstance(h, dict):
            return False
        if any(type(field.get(pair)) is not int for field in (w, h) for pair in self.pairs):
            return False
        rules = []
        for x, y in self.pairs:
            x2, y2 = self.behind(self.forest, x), self.behind(self.old, y)
            m = 1 if self.match(x, y) else 0
            rules += [h[(x, y)] >= w[(x, y)], w[(x, y)] >= m]
            rules += [h[(x2, y)] >= h[(x, y)]] if x2 else []
            rules += [h[(x, y2)] >= h[(x, y)]] if y2 else []
            rules += [h[(x2, y2)] >= h[(x, y)] + w[(x2, y2)]] if x2 and y2 else []
            rules += [w[(x, y)] >= m + h[(c, t)] for c in self.children(self.forest, x)
                      for t in self.children(self.old, y)]
            if self.level(self.forest, x) == 0:
                rules.append(h[(x, y)] <= len(thing.kept))
        return all(rules)


class Certificates(unittest.TestCase):
    def check(self, before, rows, slowly=True):
        table, forest = KeyTable(before), Forest(rows)
        proof = key_certificate(table, forest)
        self.assertIsInstance(proof, Certificate)
        self.assertIs(type(proof.kept), tuple)
        self.assertEqual(list(proof.kept), [name for name in forest if name in proof.kept])
        self.assertTrue(can_keep_keys(proof.kept, before, rows))
        self.assertIs(check_keys(table, forest, proof), True)
        if slowly:
            slow = Slow(table, rows)
            self.assertTrue(slow.holds(proof), (before, rows))
            self.assertEqual((set(proof.worths), set(proof.heights)), (set(slow.pairs), set(slow.pairs)))
        self.assertEqual((table.rows, forest.rows), (tuple(sorted(before, key=lambda row: row[2])), tuple(rows)))
        return table, forest, proof

    def test_against_all_sets_of_names(self):
        for before, rows in key_cases(random.Random(1), 1200):
            proof = self.check(before, rows)[2]
            self.assertEqual(len(proof.kept), most_keys_kept(before, rows), (before, rows))

    def test_without_nodes(self):
        for before, rows in (([], []), ([("a", 1, b"\x02")], []), ([], [("a", 1, 0)])):
            proof = self.check(before, rows)[2]
            self.assertEqual((proof.kept, proof.worths, proof.heights), ((), {}, {}))

    def test_by_hand(self):
        # The key of b stays though its parent is another node now, which takes the key of the elder one.
        table = KeyTable.laid(Forest([("a", 1, 0), ("b", 2, 1), ("c", 3, 0)]))
        forest = Forest([("x", 1, 0), ("b", 2, 1), ("a", 1, 0)])
        proof = key_certificate(table, forest)
        self.assertEqual(proof.kept, ("b",))
        self.assertEqual((proof.worths[("x", "a")], proof.worths[("a", "a")], proof.worths[("b", "b")]), (1, 1, 1))

    def test_of_the_same_forest_all_are_kept(self):
        rng = random.Random(2)
        for levels in large_levels().values():
            rows = rows_of(levels)
            table, forest, proof = self.check(key_rows(rng, rows), rows, slowly=False)
            self.assertEqual(proof.kept, tuple(forest.names()))

    def test_large_forests(self):
        rng = random.Random(3)
        for seed, levels in enumerate([*large_levels().values(), zigzag(40), zigzag(45)]):
            steps = history(seed, 40, rows_of(levels))
            for place in (2, 10, 39):
                rows, behind = steps[place - 2][0], steps[place][2]
                self.check(key_rows(rng, rows), behind, slowly=place == 10)

    def test_each_is_new(self):
        table = KeyTable.laid(Forest([("a", 1, 0), ("b", 2, 1)]))
        forest = Forest([("a", 1, 0), ("b", 2, 1)])
        proof = key_certificate(table, forest)
        proof.worths.clear()
        proof.heights["x"] = 1
        self.assertEqual(key_certificate(forest=forest, table=table),
                         Certificate(("a", "b"), {("a", "a"): 2, ("b", "b"): 1}, {("a", "a"): 2, ("b", "b"): 1}))


class Checking(unittest.TestCase):
    # In the new forest a and d stand the other way round, b has come below d, and c has another value.
    TABLE = KeyTable.laid(Forest([("a", 1, 0), ("b", 1, 1), ("c", 1, 1), ("d", 1, 0), ("e", 1, 1), ("f", 1, 0)]))
    FOREST = Forest([("d", 1, 0), ("b", 1, 1), ("c", 2, 1), ("a", 1, 0), ("e", 1, 1), ("f", 1, 0)])

    def check(self, thing):
        return check_keys(self.TABLE, self.FOREST, thing)

    def test_the_certificate_is_let_by(self):
        proof = key_certificate(self.TABLE, self.FOREST)
        self.assertEqual(proof.kept, ("b", "e", "f"))
        self.assertIs(self.check(proof), True)
        self.assertIs(check_keys(thing=proof, forest=self.FOREST, table=self.TABLE), True)
        self.assertIs(self.check(changed(proof, kept=proof.kept[::-1])), True)

    def test_what_is_no_certificate(self):
        proof = key_certificate(self.TABLE, self.FOREST)
        for thing in (None, True, 0, 1, "", "a", b"", [], (), {}, proof.kept, proof.worths, proof.heights,
                      (proof.kept, proof.worths, proof.heights), self.TABLE, self.FOREST, Cut("a"), Certificate,
                      Change((), (), ()), Change(proof.kept, (), ()), Full(1), [proof]):
            self.assertIs(self.check(thing), False)

    def test_certificates_of_anything(self):
        proof = key_certificate(self.TABLE, self.FOREST)
        for thing in (None, True, 3, "x", "A", b"a", [], ["a"], ("a",), {}, {"a": 1}, self.FOREST, Cut("a"), len):
            for kept in ([thing], (*proof.kept, thing), (thing, *proof.kept), [thing, thing]):
                self.assertIs(self.check(changed(proof, kept=kept)), False)
            self.assertIs(self.check(changed(proof, worths={("b", "b"): thing or []})), False)
            self.assertIs(self.check(changed(proof, heights={("b", "b"): thing or []})), False)
        self.assertIs(self.check(Certificate([], {}, {})), False)
        self.assertIs(self.check(Certificate([], [], ())), False)
        kept = {name: True for name in proof.kept}
        for fields in ((kept, proof.worths, proof.heights), (proof.kept, list(proof.worths), proof.heights),
                       (proof.kept, proof.worths, list(proof.heights))):
            self.assertIs(self.check(Certificate(*fields)), False)
        nothing = KeyTable([])
        self.assertIs(check_keys(nothing, Forest([]), Certificate([], {}, {})), True)
        self.assertIs(check_keys(nothing, Forest([]), Certificate([], {1: 1}, {None: []})), True)
        self.assertIs(check_keys(nothing, Forest([]), Certificate([], (), {})), False)
        self.assertIs(check_keys(nothing, Forest([]), Certificate([], {}, None)), False)
        self.assertIs(check_keys(nothing, Forest([]), Certificate(["a"], {}, {})), False)

    def test_kept(self):
        proof = key_certificate(self.TABLE, self.FOREST)
        for kept in ((), ("b", "e"), ("e", "f"), ("b", "e", "f", "b"), ("b", "b", "b"), ("a", "e", "f"),
                     ("a", "d", "f"), ("b", "c", "f"), ("b", "d", "f"), ("x", "e", "f"), tuple(self.FOREST)):
            self.assertIs(self.check(changed(proof, kept=kept)), False, kept)
        self.assertIs(self.check(changed(proof, kept=["f", "b", "e"])), True)

    def test_kept_alone(self):
        # With numbers that are large enough only the set counts.
        table = KeyTable.laid(Forest([("a", 1, 0), ("b", 1, 1), ("c", 1, 0), ("d", 1, 1)]))
        for rows, kept, answer in (
                ([("a", 1, 0), ("c", 1, 0)], ["a", "c"], True), ([("c", 1, 0), ("a", 1, 0)], ["a", "c"], False),
                ([("a", 1, 0), ("b", 1, 1), ("d", 1, 1)], ["b", "d"], False),
                ([("a", 1, 0), ("b", 1, 1), ("d", 1, 1)], ["a", "b"], True),
                ([("x", 1, 0), ("b", 1, 1), ("y", 1, 0), ("d", 1, 1)], ["b", "d"], True),
                ([("x", 1, 0), ("d", 1, 1), ("y", 1, 0), ("b", 1, 1)], ["b", "d"], False),
                ([("c", 1, 0), ("b", 1, 1)], ["b", "c"], False), ([("b", 1, 0), ("d", 1, 0)], ["b"], False),
                ([("a", 2, 0), ("c", 1, 0)], ["a"], False)):
            forest = Forest(rows)
            slow = Slow(table, rows)
            self.assertIs(slow.fit(kept), answer)
            self.assertIs(can_keep_keys(kept, table.rows, rows), answer)
            proof = key_certificate(table, forest)
            if len(kept) == len(proof.kept):
                self.assertIs(check_keys(table, forest, changed(proof, kept=kept)), answer)
            elif not answer:
                self.assertIs(check_keys(table, forest, changed(proof, kept=kept)), False)

    def test_further_keys_are_let_by(self):
        proof = key_certificate(self.TABLE, self.FOREST)
        more = {"x": 1, None: None, True: [], b"a": 1, ("a", "b", "c"): 1, (): 0, 7: 7, ("x", "a"): -5, ("a", None): "",
                ("b", "a"): None, frozenset(): 1, len: len, "a": -7}
        for worths, heights in ((more, {}), ({}, more), (more, more)):
            told = Certificate(proof.kept, {**worths, **proof.worths}, {**heights, **proof.heights})
            self.assertIs(self.check(told), True)

    def test_missing_keys_and_flags(self):
        proof = key_certificate(self.TABLE, self.FOREST)
        for pair in proof.worths:
            self.assertIs(self.check(changed(proof, worths={pair: None})), False)
            self.assertIs(self.check(changed(proof, heights={pair: None})), False)
        one = KeyTable([("a", 1, b"\x02")])
        for number, answer in ((1, True), (True, False), (0, False), (2, False), ("1", False)):
            for worth, height in ((1, number), (number, 1)):
                told = Certificate(["a"], {("a", "a"): worth}, {("a", "a"): height})
                self.assertIs(check_keys(one, one.forest(), told), answer)

    def test_against_the_conditions_word_by_word(self):
        rng = random.Random(4)
        told = [0, 0]
        for before, rows in key_cases(rng, 400):
            table, forest = KeyTable(before), Forest(rows)
            slow = Slow(table, rows)
            proof = key_certificate(table, forest)
            for _ in range(10):
                kept = list(proof.kept)
                worths, heights = dict(proof.worths), dict(proof.heights)
                for field in (worths, heights):
                    for key in rng.sample(sorted(field), rng.randrange(min(3, len(field) + 1))):
                        field[key] += rng.choice([-1, 1, 1])
                if kept and rng.randrange(3) == 0:
                    kept[rng.randrange(len(kept))] = rng.choice([*forest.names(), *table.names()])
                if rng.randrange(4) == 0:
                    kept = rng.sample(forest.names(), rng.randrange(len(forest) + 1))
                thing = Certificate(kept, worths, heights)
                answer = check_keys(table, forest, thing)
                self.assertIs(answer, slow.holds(thing), (before, rows, vars(thing)))
                told[answer] += 1
        self.assertGreater(min(told), 400)

    def test_each_number_alone(self):
        rng = random.Random(5)
        for before, rows in key_cases(rng, 60):
            table, forest = KeyTable(before), Forest(rows)
            slow = Slow(table, rows)
            proof = key_certificate(table, forest)
            for pair in proof.worths:
                for more in (-1, 1):
                    for thing in (changed(proof, worths={pair: proof.worths[pair] + more}),
                                  changed(proof, heights={pair: proof.heights[pair] + more})):
                        self.assertIs(check_keys(table, forest, thing), slow.holds(thing))

    def test_nothing_is_changed(self):
        proof = key_certificate(self.TABLE, self.FOREST)
        fields = (proof.kept, dict(proof.worths), dict(proof.heights))
        rows = (self.TABLE.rows, self.FOREST.rows)
        self.check(proof)
        self.assertEqual((proof.kept, proof.worths, proof.heights), fields)
        self.assertEqual((self.TABLE.rows, self.FOREST.rows), rows)


if __name__ == "__main__":
    unittest.main()
