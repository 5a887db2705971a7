"""The largest part of broken rows that can stay ([25], [26])."""

import itertools
import random
import unittest

from forestrows.deeds import Cut
from forestrows.errors import NoSpans, NoTable
from forestrows.forests import Forest
from forestrows.judging import judge_keys, judge_spans
from forestrows.mending import Nested, check_nested, largest_keys, largest_nested
from forestrows.tables import Certificate, Change
from laying import key_rows, mixed
from shapes import all_levels, large_levels, rows_of, zigzag

GREAT = 10 ** 30
ANYTHING = [None, True, -1, 10 ** 40, "", "No Name", b"a", [], [1, [2]], (), (1, (2,)), {}, {"a": []}, Forest([]),
            Forest, Cut("a"), len]


def cross(one, other):
    """Whether two pairs cross: neither is in the other one, and neither is before it."""
    inside = any(a[0] < b[0] and b[1] < a[1] for a, b in ((one, other), (other, one)))
    before = any(a[1] < b[0] for a, b in ((one, other), (other, one)))
    return not inside and not before


def most_nested(spans):
    """How many pairs can be kept, by a search through all sets."""
    for count in range(len(spans), -1, -1):
        if any(not any(cross(one, other) for one, other in itertools.combinations(some, 2))
               for some in itertools.combinations(spans, count)):
            return count


def holds(spans, thing):
    """The conditions, word by word."""
    m = len(spans)
    if type(thing) is not Nested or type(thing.kept) is not tuple or type(thing.bounds) is not dict:
        return False
    if any(type(place) is not int or place not in range(m) for place in thing.kept):
        return False
    if len(set(thing.kept)) < len(thing.kept):
        return False
    if any(cross(spans[one], spans[other]) for one, other in itertools.combinations(thing.kept, 2)):
        return False
    b, numbers = thing.bounds, sorted(number for span in spans for number in span)
    if any(type(b.get((i, j))) is not int for j in range(2 * m + 1) for i in range(j + 1)):
        return False
    rules = [b[(i, i)] >= 0 for i in range(2 * m + 1)] + [b[(0, 2 * m)] == len(thing.kept)]
    for j in range(2 * m + 1):
        for i in range(j):
            rules.append(b[(i, j)] >= b[(i + 1, j)])
            for left, right in spans:
                p = numbers.index(right)
                if numbers.index(left) == i and p < j:
                    rules.append(b[(i, j)] >= 1 + b[(i + 1, p)] + b[(p + 1, j)])
    return all(rules)


def pairings(numbers):
    """All ways to part numbers into ascending pairs."""
    if not numbers:
        return [[]]
    first, *rest = numbers
    return [[(first, other), *more] for place, other in enumerate(rest)
            for more in pairings(rest[:place] + rest[place + 1:])]


def some_pairs(rng, count, most=None):
    """Drawn pairs, as lists or tuples, of small or of large numbers."""
    numbers = {}
    while len(numbers) < 2 * count:
        numbers[rng.randrange(most or 4 * count + 1) - (0 if most else 2 * count)] = True
    numbers = list(numbers)
    rng.shuffle(numbers)
    return [rng.choice([list, tuple])(sorted(numbers[2 * k:2 * k + 2])) for k in range(count)]


class NestedObjects(unittest.TestCase):
    def test_sequences_as_tuples_and_dicts_as_copies(self):
        bounds = {(0, 0): 0}
        for make in (list, tuple):
            nested = Nested(make([2, 1]), bounds)
            self.assertEqual((nested.kept, nested.bounds), ((2, 1), bounds))
            self.assertIsNot(nested.bounds, bounds)
            self.assertIs(type(nested.kept), tuple)
        kept, inner = [0, ["a"]], {"a": [1]}
        nested = Nested(kept=kept, bounds=inner)
        kept[1].append("b")
        kept.append(7)
        inner["a"].append(2)
        inner["b"] = 1
        self.assertEqual((len(nested.kept), len(nested.kept[1]), nested.bounds), (2, 1, {"a": [1]}))
        for thing in ANYTHING:
            self.assertEqual(Nested([thing], {"a": thing}).kept, (thing,))
            self.assertEqual(Nested((thing,), {"a": thing}).bounds, {"a": thing})

    def test_equality(self):
        one = Nested([0, 1], {(0, 0): 0})
        self.assertIs(one == Nested((0, True), {(0, 0): False}), True)
        self.assertIs(one != Nested((0, 1), {(0, 0): 0}), False)
        for thing in [*ANYTHING, Nested([1, 0], {(0, 0): 0}), Nested([0, 1], {}), Nested([0, 1], {(0, 0): 1}),
                      Change([0, 1], {(0, 0): 0}, ()), Certificate([0, 1], {(0, 0): 0}, {}), ((0, 1), {(0, 0): 0})]:
            self.assertIs(one == thing, False)
            self.assertIs(thing == one, False)
            self.assertIs(one != thing, True)


class Spans(unittest.TestCase):
    def check(self, spans, most=None):
        given = repr(spans)
        nested = largest_nested(spans)
        self.assertIsInstance(nested, Nested)
        self.assertEqual(nested.kept, tuple(sorted(nested.kept)))
        self.assertTrue(holds(spans, nested), spans)
        self.assertIs(check_nested(spans, nested), True)
        self.assertEqual(set(nested.bounds), {(i, j) for j in range(2 * len(spans) + 1) for i in range(j + 1)})
        self.assertEqual(len(nested.kept), most_nested(spans) if most is None else most, spans)
        self.assertEqual(repr(spans), given)
        self.assertEqual(largest_nested(tuple(tuple(span) for span in spans)), nested)

    def test_example(self):
        self.assertEqual(largest_nested([(0, 4), (2, 6), (3, 5)]).kept, (1, 2))

    def test_all_ways_to_pair(self):
        rng = random.Random(1)
        for count in range(5):
            for spans in pairings(list(range(2 * count))):
                rng.shuffle(spans)
                self.check(spans)

    def test_drawn_pairs(self):
        rng = random.Random(2)
        for _ in range(150):
            self.check(some_pairs(rng, rng.randrange(9)))
            self.check(some_pairs(rng, rng.randrange(7), 2 * GREAT))
        self.check([(-GREAT ** 3, GREAT ** 3), (0, 10 ** 100)])

    def test_no_item_and_twenty(self):
        self.assertEqual((largest_nested([]).kept, largest_nested(()).kept), ((), ()))
        self.assertIs(check_nested([], Nested([], {(0, 0): 0})), True)
        self.check([(k, 39 - k) for k in range(20)], 20)
        self.check([(2 * k, 2 * k + 1) for k in range(20)], 20)
        self.check([(k, 20 + k) for k in range(20)], 1)
        self.check([(2 * k, 2 * k + 3) if k < 19 else (1, 38) for k in range(20)], 10)
        rng = random.Random(3)
        for _ in range(8):
            spans = some_pairs(rng, 20)
            nested = largest_nested(spans)
            self.assertTrue(holds(spans, nested))
            # No pair that was left out can be added.
            for place in set(range(20)) - set(nested.kept):
                self.assertTrue(any(cross(spans[place], spans[other]) for other in nested.kept))

    def test_what_is_kept_are_right_rows(self):
        rng = random.Random(4)
        for _ in range(50):
            spans = some_pairs(rng, 12)
            least = min(left for left, _ in spans)
            rows = [(f"n{place}", 0, spans[place][0] - least, spans[place][1] - least)
                    for place in largest_nested(spans).kept]
            self.assertIsNone(judge_spans(rows, 1000))

    def test_errors(self):
        right = [(0, 9), [-5, 4], (2, 6)]
        for thing in (None, True, 0, "", "ab", b"ab", {}, {0: 1}, range(2), Forest([]),
                      [(k, k + 100) for k in range(21)], [None] * 21):
            for call in (largest_nested, lambda spans: check_nested(spans, None),
                         lambda spans: check_nested(spans, Nested([], {(0, 0): 0}))):
                with self.assertRaises(NoSpans) as caught:
                    call(thing)
                self.assertEqual(caught.exception.place, -1)
        wrong = [None, True, 1, "ab", b"ab", {}, {0: 1, 1: 2}, [], (10,), (10, 11, 12), (11, 10), (10, 10), (10, None),
                 (None, 10), (True, 10), (-9, False), ("a", "b"), ("10", 11), ([10], [11]), (10, 9), (9, 10), (-5, 10),
                 (10, 10 ** 40, 0), (4, 6), (6, 12), (-9, 2), (0, 9), Forest([]), range(10, 12)]
        for item in wrong:
            for call in (largest_nested, lambda spans: check_nested(spans, Nested([], {(0, 0): 0}))):
                for behind in ([], [None], [(0, 9)]):
                    with self.assertRaises(NoSpans) as caught:
                        call(right + [item] + behind)
                    self.assertEqual(caught.exception.place, 3)
                    with self.assertRaises(NoSpans) as caught:
                        call((*right, item, *behind))
                    self.assertEqual(caught.exception.place, 3)
        for rows, place in (([(1, 2), (2, 3)], 1), ([(1, 2), (3, 4), (0, 1), (3, 9)], 2), ([(2, 1), (1, 2)], 0)):
            with self.assertRaises(NoSpans) as caught:
                largest_nested(spans=rows)
            self.assertEqual(caught.exception.place, place)


class Checking(unittest.TestCase):
    SPANS = [(0, 4), (2, 6), (3, 5), (7, 8)]

    def test_kept_in_any_order(self):
        nested = largest_nested(self.SPANS)
        self.assertEqual(nested.kept, (1, 2, 3))
        for kept in itertools.permutations(nested.kept):
            self.assertIs(check_nested(self.SPANS, Nested(kept, nested.bounds)), True)
        self.assertIs(check_nested(thing=nested, spans=self.SPANS), True)

    def test_what_is_none(self):
        nested = largest_nested(self.SPANS)
        for thing in [*ANYTHING, nested.kept, nested.bounds, (nested.kept, nested.bounds), [nested], Nested,
                      Change(nested.kept, nested.bounds, ()), Certificate(nested.kept, nested.bounds, {})]:
            self.assertIs(check_nested(self.SPANS, thing), False)
        for thing in ANYTHING:
            self.assertIs(check_nested(self.SPANS, Nested([1, 2, thing], nested.bounds)), False)
            self.assertIs(check_nested(self.SPANS, Nested([thing, 1, 2], nested.bounds)), False)
            self.assertIs(check_nested(self.SPANS, Nested(nested.kept, {**nested.bounds, (0, 8): thing})), False)
        for kept in ((), (1, 2), (1, 2, 3, 3), (1, 1, 1), (0, 1, 3), (0, 3), (1, 2, 4), (-1, 1, 2), (1, 2, -1),
                     (True, 2, 3), (0, 1, 2, 3)):
            self.assertIs(check_nested(self.SPANS, Nested(kept, nested.bounds)), False, kept)
        self.assertIs(check_nested([(0, 1), (2, 3)], Nested([False, True], largest_nested([(0, 1), (2, 3)]).bounds)),
                      False)
        self.assertIs(check_nested(self.SPANS, Nested({place: True for place in nested.kept}, nested.bounds)), False)
        self.assertIs(check_nested(self.SPANS, Nested(nested.kept, list(nested.bounds))), False)

    def test_each_number(self):
        nested = largest_nested(self.SPANS)
        for key, number in nested.bounds.items():
            for other in (number - 1, number + 1, number + 9, True, False, None, "1", [1]):
                thing = Nested(nested.kept, {**nested.bounds, key: other})
                self.assertIs(check_nested(self.SPANS, thing), holds(self.SPANS, thing), (key, other))
            fewer = {one: nested.bounds[one] for one in nested.bounds if one != key}
            self.assertIs(check_nested(self.SPANS, Nested(nested.kept, fewer)), False)
            self.assertIs(check_nested(self.SPANS, Nested(nested.kept, {**fewer, str(key): number})), False)

    def test_further_keys_are_let_by(self):
        nested = largest_nested(self.SPANS)
        more = {"x": 1, None: None, (1, 0): -3, (0, 9): [], (-1, 0): "", (): 0, 7: 7, (0, 0, 0): 1, "(0, 0)": 4, len: 1}
        self.assertIs(check_nested(self.SPANS, Nested(nested.kept, {**nested.bounds, **more})), True)

    def test_against_the_conditions_word_by_word(self):
        rng = random.Random(5)
        told = [0, 0]
        for _ in range(300):
            spans = some_pairs(rng, rng.randrange(1, 6))
            nested = largest_nested(spans)
            for _ in range(8):
                kept, bounds = list(nested.kept), dict(nested.bounds)
                for key in rng.sample(sorted(bounds), rng.randrange(3)):
                    bounds[key] += rng.choice([-1, 1, 1])
                if rng.randrange(3) == 0:
                    kept = rng.sample(range(len(spans)), rng.randrange(len(spans) + 1))
                if rng.randrange(4) == 0:
                    # Larger numbers with as many kept fewer: the greatest is too great then.
                    bounds = {key: number + 1 for key, number in bounds.items()}
                thing = Nested(kept, bounds)
                answer = check_nested(spans, thing)
                self.assertIs(answer, holds(spans, thing), (spans, vars(thing)))
                told[answer] += 1
        self.assertGreater(min(told), 300)

    def test_nothing_is_changed(self):
        spans = [[0, 4], [2, 6]]
        nested = largest_nested(spans)
        fields = (nested.kept, dict(nested.bounds))
        check_nested(spans, nested)
        self.assertEqual((spans, nested.kept, nested.bounds), ([[0, 4], [2, 6]], *fields))
        nested.bounds.clear()
        self.assertEqual(largest_nested(spans), Nested(*fields))


class Keys(unittest.TestCase):
    def places(self, rows):
        """The rows all of whose ancestors are there, by the beginnings of the keys."""
        held = [row[2] for row in rows]
        # A byte string that ends in an even byte is one of the keys above.
        return [place for place, row in enumerate(rows)
                if all(row[2][:k] in held for k in range(1, len(row[2])) if row[2][k - 1] % 2 == 0)]

    def test_against_all_parts(self):
        rng = random.Random(6)
        for _ in range(120):
            levels = rng.choice(list(all_levels(rng.randrange(1, 8))))
            rows = mixed(rng, [row for row in key_rows(rng, rows_of(levels)) if rng.randrange(4)])
            given = repr(rows)
            found = largest_keys(rows)
            self.assertIs(type(found), list)
            self.assertEqual(found, self.places(rows))
            right = [some for count in range(len(rows) + 1) for some in itertools.combinations(range(len(rows)), count)
                     if judge_keys([rows[place] for place in some]) is None]
            largest = [some for some in right if len(some) == len(right[-1])]
            self.assertEqual(largest, [tuple(found)])
            self.assertEqual(repr(rows), given)

    def test_large_ones(self):
        rng = random.Random(7)
        for levels in [*large_levels().values(), zigzag(50)]:
            for often in (2, 5, 20, 1000):
                rows = mixed(rng, [row for row in key_rows(rng, rows_of(levels)) if rng.randrange(often)])
                self.assertEqual(largest_keys(rows), self.places(rows))
                self.assertIsNone(judge_keys([rows[place] for place in largest_keys(rows)]))

    def test_by_hand(self):
        rows = [("a", 1, b"\x04\x02\x02"), ("b", 1, b"\x02\x02"), ("c", 1, b"\x04"), ("d", 1, b"\x02"),
                ("e", 1, b"\x06\x02"), ("f", 1, b"\x03\x02")]
        self.assertEqual(largest_keys(rows), [1, 2, 3, 5])
        self.assertEqual(largest_keys(rows=rows[:2]), [])
        self.assertEqual((largest_keys([]), largest_keys(())), ([], []))
        long = b"\x01" * 1000 + b"\x02"
        self.assertEqual(largest_keys([("a", 1, long + long[-990:]), ("b", 1, long)]), [0, 1])
        self.assertEqual(largest_keys([("a", 1, b"\x02" * 2000), ("b", 1, b"\x02")]), [1])

    def test_each_list_is_new(self):
        rows = [("a", 1, b"\x02")]
        largest_keys(rows).append(7)
        self.assertEqual(largest_keys(rows), [0])

    def test_errors(self):
        orphan = ("o", 1, b"\x08\x02")
        for wrong, why in ((None, "row"), (("a", 1), "row"), (("A", 1, b"\x06"), "name"),
                           (("x", True, b"\x06"), "value"),
                           (("x", 1, b"\x06\x01"), "key"), (("x", 1, "key"), "key"), (("a", 1, b"\x06"), "twice"),
                           (("x", 1, b"\x02"), "shared"), (("x", 1, b"\x08\x02"), "shared")):
            for behind in ([], [None]):
                with self.assertRaises(NoTable) as caught:
                    largest_keys([("a", 1, b"\x02"), orphan, wrong, *behind])
                self.assertEqual((caught.exception.place, caught.exception.why), (2, why))
        for thing in (None, True, "ab", b"ab", {}, range(3), Forest([]), [orphan] * 61, [None] * 61):
            with self.assertRaises(NoTable) as caught:
                largest_keys(thing)
            self.assertEqual((caught.exception.place, caught.exception.why), (-1, "rows"))
        self.assertEqual(largest_keys([orphan]), [])


if __name__ == "__main__":
    unittest.main()
