"""Certificates for spans ([10])."""

import random
import unittest

from forestrows.deeds import Cut
from forestrows.errors import Full
from forestrows.forests import Forest
from forestrows.keeping import check_spans, span_certificate
from forestrows.spans import SpanTable
from forestrows.tables import Certificate, Change
from playing import history
from proofs import changed
from shapes import large_levels, rows_of
from spanning import (can_keep, end_names, fewest_changed, most_kept, shuffled_cases, small_cases, some_numbers,
                      with_numbers)


class Slow:
    """The candidates, what fits, and the conditions, word by word as the document has them."""

    def __init__(self, table, forest):
        count = len(forest)
        ends = end_names(forest.rows)
        self.begin = {name: ends.index(name) for name in forest}
        self.end = {name: 2 * count - 1 - ends[::-1].index(name) for name in forest}
        self.shifts = {}
        for name, value, left, right in table.rows:
            if name in forest and forest.value_of(name) == value:
                a, b = left - self.begin[name], right - self.end[name]
                if 0 <= a <= b <= table.limit - 2 * count:
                    self.shifts[name] = (a, b)
        self.names = [name for name in forest if name in self.shifts]
        self.boxes = {None: self.names}
        for box in self.names:
            self.boxes[box] = [name for name in self.names if forest.is_above(box, name) and self.fit(box, name)]

    def fit(self, one, other):
        four = sorted([(self.begin[one], self.shifts[one][0]), (self.end[one], self.shifts[one][1]),
                       (self.begin[other], self.shifts[other][0]), (self.end[other], self.shifts[other][1])])
        return all(low[1] <= high[1] for place, high in enumerate(four) for low in four[:place])

    def is_kept(self, kept):
        return (isinstance(kept, tuple) and all(any(one == name for name in self.names) for one in kept)
                and all(kept[k] != kept[m] and self.fit(kept[k], kept[m]) for k in range(len(kept)) for m in range(k)))

    def holds(self, thing):
        if not isinstance(thing, Certificate) or not self.is_kept(thing.kept):
            return False
        w, h = thing.worths, thing.heights
        keys = [(box, name) for box in self.boxes for name in self.boxes[box]]
        if not isinstance(w, dict) or not isinstance(h, dict):
            return False
        if any(type(w.get(name)) is not int for name in self.names) or any(type(h.get(key)) is not int for key in keys):
            return False
        rules = [h[key] >= w[key[1]] for key in keys]
        rules += [w[box] >= 1 for box in self.names]
        rules += [w[box] >= 1 + h[(box, name)] for box in self.names for name in self.boxes[box]]
        rules += [h[(None, name)] <= len(thing.kept) for name in self.names]
        rules += [h[(box, other)] >= h[(box, name)] + w[other] for box in self.boxes for name in self.boxes[box]
                  for other in self.boxes[box] if self.end[name] < self.begin[other] and self.fit(name, other)]
        return all(rules)


class Certificates(unittest.TestCase):
    def check(self, before, rows, most, fewest):
        table = SpanTable(before, most)
        forest = Forest(rows)
        proof = span_certificate(table, forest)
        self.assertIsInstance(proof, Certificate)
        self.assertIs(type(proof.kept), tuple)
        self.assertEqual(list(proof.kept), [name for name in forest if name in proof.kept])
        self.assertTrue(can_keep(proof.kept, before, rows, most))
        slow = Slow(table, forest)
        self.assertTrue(slow.holds(proof), (before, rows, most))
        self.assertEqual(set(proof.worths), set(slow.names))
        self.assertEqual(set(proof.heights), {(box, name) for box in slow.boxes for name in slow.boxes[box]})
        self.assertIs(check_spans(table, forest, proof), True)
        common = [name for name in forest if name in table]
        self.assertEqual(len(proof.kept), len(common) - fewest, (before, rows, most))
        self.assertEqual((table.rows, forest.rows), (tuple(before), tuple(rows)))
        return table, forest, proof

    def test_against_all_right_rows(self):
        for before, rows, most in [*small_cases(1, 500), *shuffled_cases(2, 700)]:
            self.check(before, rows, most, fewest_changed(before, rows, most))

    def test_against_all_sets_of_names(self):
        for before, rows, most in [*small_cases(3, 500), *shuffled_cases(4, 500)]:
            common = [row for row in rows if row[0] in [one[0] for one in before]]
            self.check(before, rows, most, len(common) - most_kept(before, rows, most))

    def test_without_nodes(self):
        for before, most in (([], 1), ([("a", 1, 0, 1)], 2)):
            proof = self.check(before, [], most, 0)[2]
            self.assertEqual((proof.kept, proof.worths, proof.heights), ((), {}, {}))
        self.check([], [("a", 1, 0)], 2, 0)

    def test_of_the_same_forest_all_are_kept(self):
        rng = random.Random(5)
        for levels in large_levels().values():
            rows = rows_of(levels)
            for most in (120, 121, 1000, 10 ** 30):
                self.check(with_numbers(rows, some_numbers(rng, 120, most)), rows, most, 0)

    def test_large_forests_of_a_history(self):
        rng = random.Random(6)
        for seed, levels in enumerate(large_levels().values()):
            steps = history(seed, 40, rows_of(levels))
            for place in (2, 10, 39):
                rows, behind = steps[place - 2][0], steps[place][2]
                for most in (122, 200, 10 ** 30):
                    before = with_numbers(rows, some_numbers(rng, 2 * len(rows), most))
                    table, forest = SpanTable(before, most), Forest(behind)
                    proof = span_certificate(table, forest)
                    self.assertTrue(Slow(table, forest).holds(proof))
                    self.assertIs(check_spans(table, forest, proof), True)
                    self.assertTrue(can_keep(proof.kept, before, behind, most))

    def test_each_is_new(self):
        table = SpanTable([("a", 1, 0, 3), ("b", 2, 1, 2)], 4)
        proof = span_certificate(table, table.forest())
        proof.worths.clear()
        proof.heights["x"] = 1
        again = span_certificate(table=table, forest=table.forest())
        self.assertEqual(again, Certificate(("a", "b"), {"a": 2, "b": 1},
                                            {(None, "a"): 2, (None, "b"): 1, ("a", "b"): 1}))

    def test_full(self):
        table = SpanTable([("a", 1, 0, 1)], 3)
        forest = Forest([("a", 1, 0), ("b", 2, 0)])
        proof = span_certificate(SpanTable([("a", 1, 0, 1)], 4), forest)
        for thing in (proof, None, 3, Certificate([], {}, {})):
            with self.assertRaises(Full) as caught:
                check_spans(table, forest, thing)
            self.assertEqual(caught.exception.needed, 4)
        with self.assertRaises(Full) as caught:
            span_certificate(table, forest)
        self.assertEqual(caught.exception.needed, 4)
        self.assertEqual((table.rows, table.limit), ((("a", 1, 0, 1),), 3))
        full = Forest(rows_of([0] * 60))
        with self.assertRaises(Full) as caught:
            span_certificate(SpanTable([], 119), full)
        self.assertEqual(caught.exception.needed, 120)
        self.assertEqual(span_certificate(SpanTable([], 120), full).kept, ())


class Checking(unittest.TestCase):
    # In the new forest b is the parent of c, and d and e stand the other way round.
    TABLE = SpanTable([("a", 1, 0, 9), ("b", 1, 1, 4), ("c", 1, 6, 7), ("d", 1, 10, 12), ("e", 1, 14, 15)], 20)
    FOREST = Forest([("a", 1, 0), ("b", 1, 1), ("c", 1, 2), ("e", 1, 0), ("d", 1, 0)])

    def test_the_certificate_is_let_by(self):
        proof = span_certificate(self.TABLE, self.FOREST)
        self.assertIs(check_spans(self.TABLE, self.FOREST, proof), True)
        self.assertIs(check_spans(thing=proof, forest=self.FOREST, table=self.TABLE), True)
        self.assertIs(check_spans(self.TABLE, self.FOREST, changed(proof, kept=proof.kept[::-1])), True)

    def test_what_is_no_certificate(self):
        proof = span_certificate(self.TABLE, self.FOREST)
        for thing in (None, True, 0, 1, "", "a", b"", [], (), {}, proof.kept, proof.worths, proof.heights,
                      (proof.kept, proof.worths, proof.heights), self.TABLE, self.FOREST, Cut("a"), Certificate,
                      Change((), (), ()), Change(proof.kept, (), ()), Full(1), [proof]):
            self.assertIs(check_spans(self.TABLE, self.FOREST, thing), False)

    def test_certificates_of_anything(self):
        proof = span_certificate(self.TABLE, self.FOREST)
        for thing in (None, True, 3, "x", "A", b"a", [], ["a"], ("a",), {}, {"a": 1}, self.FOREST, Cut("a"), len):
            for kept in ([thing], (*proof.kept, thing), (thing, *proof.kept), [thing, thing]):
                self.assertIs(check_spans(self.TABLE, self.FOREST, changed(proof, kept=kept)), False)
            self.assertIs(check_spans(self.TABLE, self.FOREST, changed(proof, worths={"a": thing or []})), False)
            self.assertIs(check_spans(self.TABLE, self.FOREST, changed(proof, heights={(None, "a"): thing or []})),
                          False)
        self.assertIs(check_spans(self.TABLE, self.FOREST, Certificate([], {}, {})), False)
        self.assertIs(check_spans(self.TABLE, self.FOREST, Certificate([], [], ())), False)
        kept = {name: True for name in proof.kept}
        for fields in ((kept, proof.worths, proof.heights), (proof.kept, list(proof.worths), proof.heights),
                       (proof.kept, proof.worths, list(proof.heights))):
            self.assertIs(check_spans(self.TABLE, self.FOREST, Certificate(*fields)), False)

    def test_kept(self):
        proof = span_certificate(self.TABLE, self.FOREST)
        self.assertEqual(len(proof.kept), 3)
        for kept in ((), proof.kept[:-1], proof.kept[1:], (*proof.kept, proof.kept[0]), proof.kept[:1] * 3,
                     tuple(self.FOREST), ("d", "e"), ("b", "c"), ("a", "d", "e"), ("a", "b", "c")):
            self.assertIs(check_spans(self.TABLE, self.FOREST, changed(proof, kept=kept)), False)

    def test_further_keys_are_let_by(self):
        proof = span_certificate(self.TABLE, self.FOREST)
        more = {"x": 1, None: None, True: [], b"a": 1, ("a", "b", "c"): 1, (): 0, 7: 7, ("x", "a"): -5, ("a", None): "",
                ("e", "d"): None, frozenset(): 1, len: len}
        for worths, heights in ((more, {}), ({}, more), (more, more)):
            told = Certificate(proof.kept, {**worths, **proof.worths}, {**heights, **proof.heights})
            self.assertIs(check_spans(self.TABLE, self.FOREST, told), True)

    def test_missing_keys_and_flags(self):
        proof = span_certificate(self.TABLE, self.FOREST)
        for name in proof.worths:
            self.assertIs(check_spans(self.TABLE, self.FOREST, changed(proof, worths={name: None})), False)
        for key in proof.heights:
            self.assertIs(check_spans(self.TABLE, self.FOREST, changed(proof, heights={key: None})), False)
        one = SpanTable([("a", 1, 0, 1)], 2)
        for number, answer in ((1, True), (True, False), (0, False), (2, False), ("1", False)):
            self.assertIs(check_spans(one, one.forest(), Certificate(["a"], {"a": 1}, {(None, "a"): number})), answer)
        self.assertIs(check_spans(one, one.forest(), Certificate(["a"], {"a": True}, {(None, "a"): 1})), False)

    def test_each_condition(self):
        # Two roots, the first with a child, in their right places: all three can be kept.
        table = SpanTable([("a", 1, 0, 3), ("b", 1, 1, 2), ("c", 1, 4, 5)], 6)
        forest = table.forest()
        proof = Certificate(["c", "a", "b"], {"a": 2, "b": 1, "c": 1},
                            {(None, "a"): 2, (None, "b"): 1, (None, "c"): 3, ("a", "b"): 1})
        self.assertIs(check_spans(table, forest, proof), True)
        for worths, heights, answer in (
                ({}, {(None, "b"): 2}, True), ({}, {(None, "b"): 3}, False),     # b and c
                ({"b": 0}, {}, False),                                           # w(b) >= 1
                ({"a": 1}, {}, False),                                           # w(a) >= 1 + h(a, b)
                ({}, {("a", "b"): 0}, False), ({}, {("a", "b"): 2}, False),      # h >= w, and w(a) again
                ({}, {(None, "a"): 1}, False), ({}, {(None, "b"): 0}, False),    # h >= w
                ({}, {(None, "c"): 2}, False), ({}, {(None, "c"): 4}, False),    # h(c) >= h(a) + w(c), <= 3
                ({"a": -2}, {}, False), ({"c": 2}, {}, False),
                ({"a": 3}, {(None, "a"): 3}, False)):
            told = changed(proof, worths=worths, heights=heights)
            self.assertIs(check_spans(table, forest, told), answer, (worths, heights))
            self.assertIs(Slow(table, forest).holds(told), answer)

    def test_against_the_conditions_word_by_word(self):
        rng = random.Random(7)
        told = [0, 0]
        for before, rows, most in [*small_cases(8, 250), *shuffled_cases(9, 250)]:
            table, forest = SpanTable(before, most), Forest(rows)
            slow = Slow(table, forest)
            proof = span_certificate(table, forest)
            for _ in range(12):
                kept = list(proof.kept)
                worths, heights = dict(proof.worths), dict(proof.heights)
                for field in (worths, heights):
                    for key in rng.sample(sorted(field, key=str), rng.randrange(min(3, len(field) + 1))):
                        field[key] += rng.choice([-1, 1, 1])
                if kept and rng.randrange(3) == 0:
                    kept[rng.randrange(len(kept))] = rng.choice([*slow.names, *forest.names()])
                if rng.randrange(4) == 0:
                    kept = rng.sample(forest.names(), rng.randrange(len(forest) + 1))
                thing = Certificate(kept, worths, heights)
                answer = check_spans(table, forest, thing)
                self.assertIs(answer, slow.holds(thing), (before, rows, most, vars(thing)))
                told[answer] += 1
        self.assertGreater(min(told), 500)

    def test_nothing_is_changed(self):
        proof = span_certificate(self.TABLE, self.FOREST)
        fields = (proof.kept, dict(proof.worths), dict(proof.heights))
        rows = (self.TABLE.rows, self.FOREST.rows)
        check_spans(self.TABLE, self.FOREST, proof)
        self.assertEqual((proof.kept, proof.worths, proof.heights), fields)
        self.assertEqual((self.TABLE.rows, self.FOREST.rows), rows)


if __name__ == "__main__":
    unittest.main()
