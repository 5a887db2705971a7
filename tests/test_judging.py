"""Judging rows, Fault, and the walk over span rows ([18] to [22])."""

import inspect
import itertools
import random
import unittest

from forestrows.deeds import Cut
from forestrows.errors import NoBound
from forestrows.forests import Forest
from forestrows.judging import Fault, judge_keys, judge_pairs, judge_spans, walk_spans
from forestrows.spans import Span
from laying import key_rows, mixed, pair_rows
from shapes import all_levels, all_rows, large_levels, rows_of
from spanning import some_numbers, with_numbers

GREAT = 10 ** 30
NO_SEQUENCES = [None, True, 0, 3, "", "abc", b"", b"abc", {}, {0: 1}, range(0), range(3), Forest([]), Cut("a"), Fault,
                Fault(0, "row"), Span(0, 1), len, NoBound(0)]
NO_NAMES = [None, True, 0, "", "A", "1", "abcdefghi", "a b", b"a", ["a"], ("a",), {}, Forest([])]
NO_VALUES = [None, True, False, "1", b"1", GREAT + 1, -GREAT - 1, [1], (), {}, Forest([])]
NO_NUMBERS = [None, True, False, "0", b"0", [0], (0,), {}, -1, -GREAT, Forest([])]
NO_KEYS = [None, True, 2, "", "a", [2], (2,), {}, bytearray(b"\x02"), b"", b"\x00", b"\x01", b"\x02\x00", b"\x00\x02",
           b"\x02\x01", b"\xff", Forest([])]
NO_BOUNDS = [None, True, False, 0, -1, GREAT + 1, "1", b"1", [1], (1,), {}, Forest([])]


def told(fault):
    """A fault as a pair, or None."""
    return None if fault is None else (fault.place, fault.word)


def spoilt(rng, rows, things):
    """Rows in another order, of which a few are others now, are gone, or are there once more."""
    rows = [list(row) for row in rows]
    for _ in range(rng.choice([0, 1, 1, 2])):
        kind = rng.randrange(6)
        if kind == 0 and rows:
            del rows[rng.randrange(len(rows))]
        elif kind == 1 and rows:
            rows.append(list(rng.choice(rows)))
        elif rows:
            row = rng.choice(rows)
            at = rng.randrange(len(row))
            row[at] = rng.choice([one[at] for one in rows if len(one) > at] + things(at))
    rng.shuffle(rows)
    return [tuple(row) for row in rows]


class Faults(unittest.TestCase):
    def test_fields(self):
        for thing in (None, -1, 10 ** 40, "row", [1], {}, Forest([])):
            self.assertIs(Fault(thing, 0).place, thing)
            self.assertIs(Fault(0, thing).word, thing)
        self.assertEqual(told(Fault(word="row", place=3)), (3, "row"))

    def test_equality(self):
        self.assertIs(Fault(1, "row") == Fault(True, "row"), True)
        self.assertIs(Fault(1, "row") != Fault(1, "row"), False)
        for other in (Fault(0, "row"), Fault(1, "name"), (1, "row"), [1, "row"], None, 1, "row", NoBound(1), Cut("a"),
                      Span(1, "row"), {}, Fault):
            self.assertIs(Fault(1, "row") == other, False)
            self.assertIs(other == Fault(1, "row"), False)
            self.assertIs(Fault(1, "row") != other, True)


class Judging(unittest.TestCase):
    """What the tests of the three functions share."""

    def at_places(self, judge, right, wrong, word):
        """The word of a row at each place among right rows, also ahead of other wrong ones."""
        kept = repr(wrong)
        for place in range(len(right) + 1):
            for behind in (right[place:], [None], []):
                rows = right[:place] + [wrong] + behind
                self.assertEqual(told(judge(rows)), (place, word), rows)
                self.assertEqual(told(judge(tuple(rows))), (place, word), rows)
        self.assertEqual(repr(wrong), kept)

    def no_rows(self, judge, most):
        """(-1, "rows") for what is no sequence, and for too many rows."""
        for thing in NO_SEQUENCES:
            self.assertEqual(told(judge(thing)), (-1, "rows"))
        self.assertEqual(told(judge([None] * most)), (0, "row"))
        self.assertEqual(told(judge([None] * (most + 1))), (-1, "rows"))
        self.assertEqual(told(judge((None,) * (most + 1))), (-1, "rows"))


class Spans(Judging):
    RIGHT = [("b", 2, 15, 25), ("a", 1, 5, 35), ("c", -3, 45, 55)]

    def judge(self, rows, most=60):
        return judge_spans(rows, most)

    def check(self, wrong, word):
        self.at_places(self.judge, self.RIGHT, wrong, word)

    def test_right_rows(self):
        rng = random.Random(1)
        for rows in all_rows():
            count = 2 * len(rows)
            for most in (max(1, count), count + 1, count + 10, 1000, GREAT):
                spans = with_numbers(rows, some_numbers(rng, count, most))
                self.assertIsNone(judge_spans(mixed(rng, spans), most))
        self.assertIsNone(judge_spans(rows=[], most=1))
        self.assertIsNone(judge_spans((), GREAT))

    def test_bounds(self):
        for most in NO_BOUNDS:
            for rows in (self.RIGHT, [], None, [None] * 61, [None]):
                with self.assertRaises(NoBound) as caught:
                    judge_spans(rows, most)
                self.assertIs(caught.exception.most, most)
        self.assertEqual(told(judge_spans([("a", 1, 0, 1)], 1)), (0, "number"))
        self.assertIsNone(judge_spans([("a", 1, 0, 1)], 2))
        self.assertIsNone(judge_spans([("a", 1, 0, GREAT - 1)], GREAT))
        self.assertEqual(told(judge_spans([("a", 1, 0, GREAT)], GREAT)), (0, "number"))

    def test_rows(self):
        self.no_rows(self.judge, 60)
        self.assertIsNone(judge_spans(with_numbers(rows_of([0] * 60), range(120)), 120))
        self.assertEqual(told(judge_spans(with_numbers(rows_of([0] * 61), range(122)), 122)), (-1, "rows"))

    def test_row(self):
        for row in [*NO_SEQUENCES, (), [], ("x",), ("x", 1, 0), ["x", 1, 0, 1, 1], ("x", 1, 0, 1, None), "abcd"]:
            self.check(row, "row")

    def test_name(self):
        for name in NO_NAMES:
            self.check((name, 1, 0, 1), "name")
            self.check([name, None, 7, 3], "name")

    def test_value(self):
        for value in NO_VALUES:
            self.check(("x", value, 0, 1), "value")
            self.check(("a", value, 7, None), "value")
        self.assertIsNone(self.judge([("x", GREAT, 0, 1), ("y", -GREAT, 2, 3)]))

    def test_number(self):
        for number in [*NO_NUMBERS, 60, 61, GREAT]:
            self.check(("x", 1, number, 57), "number")
            self.check(("x", 1, 0, number), "number")
            self.check(("a", 1, number, number), "number")
        self.assertIsNone(self.judge([("x", 1, 0, 59)]))

    def test_order(self):
        for left, right in ((1, 1), (2, 1), (59, 0), (35, 5), (15, 15)):
            self.check(("x", 1, left, right), "order")
            self.check(("a", 1, left, right), "order")

    def test_twice(self):
        for place in range(1, 4):
            for name in [row[0] for row in self.RIGHT[:place]]:
                for numbers in ((0, 1), (5, 35), (20, 50), (0, 5)):
                    rows = self.RIGHT[:place] + [(name, 1, *numbers)] + self.RIGHT[place:]
                    self.assertEqual(told(self.judge(rows)), (place, "twice"))

    def test_shared(self):
        for left, right in ((0, 5), (5, 7), (5, 35), (35, 36), (25, 27), (10, 15), (20, 45), (10, 55)):
            self.assertEqual(told(self.judge(self.RIGHT + [("x", 1, left, right), None])), (3, "shared"))
        self.assertEqual(told(self.judge([("x", 1, 0, 5), *self.RIGHT])), (2, "shared"))

    def test_crossed(self):
        for left, right in ((0, 10), (10, 20), (20, 30), (30, 40), (40, 50), (50, 59), (0, 50), (16, 26), (14, 24)):
            self.assertEqual(told(self.judge(self.RIGHT + [("x", 1, left, right), None])), (3, "crossed"))
        for left, right in ((0, 1), (0, 59), (6, 26), (6, 7), (16, 24), (36, 44), (46, 54), (56, 57), (4, 36), (4, 56)):
            self.assertIsNone(self.judge(self.RIGHT + [("x", 1, left, right)]))

    def test_against_the_words_one_by_one(self):
        rng = random.Random(2)
        words = {}
        for _ in range(4000):
            rows = rows_of(rng.choice(list(all_levels(rng.randrange(5)))))
            spans = with_numbers(rows, sorted(rng.sample(range(12), 2 * len(rows))))
            spans = spoilt(rng, spans, lambda at: [["n0", "N"], [0, None], list(range(-1, 13)), list(range(13))][at])
            answer = told(judge_spans(spans, 12))
            self.assertEqual(answer, slow_spans(spans, 12), spans)
            words[answer and answer[1]] = words.get(answer and answer[1], 0) + 1
        for word in (None, "name", "value", "number", "order", "twice", "shared", "crossed"):
            self.assertGreater(words[word], 20, word)

    def test_what_was_handed_in_stays(self):
        rows = [list(row) for row in self.RIGHT]
        judge_spans(rows, 60)
        self.assertEqual(rows, [list(row) for row in self.RIGHT])


def slow_spans(rows, most):
    """The fault of span rows, rows of four, word by word as the document has it."""
    for place, (name, value, left, right) in enumerate(rows):
        earlier = rows[:place]
        numbers = [number for one in earlier for number in one[2:]]
        beside = [left < one[2] and one[3] < right or one[2] < left and right < one[3]
                  or left < one[2] and left < one[3] and right < one[2] and right < one[3]
                  or one[2] < left and one[2] < right and one[3] < left and one[3] < right
                  for one in earlier]
        for word, wrong in (("name", name == "N"), ("value", value is None),
                            ("number", left not in range(most) or right not in range(most)),
                            ("order", left >= right), ("twice", name in [one[0] for one in earlier]),
                            ("shared", left in numbers or right in numbers), ("crossed", not all(beside))):
            if wrong:
                return place, word
    return None


class Keys(Judging):
    RIGHT = [("b", 2, b"\x02\x03\x04"), ("a", 1, b"\x02"), ("c", -3, b"\x04")]

    def check(self, wrong, word):
        self.at_places(judge_keys, self.RIGHT, wrong, word)

    def test_right_rows(self):
        rng = random.Random(3)
        for rows in all_rows():
            self.assertIsNone(judge_keys(mixed(rng, key_rows(rng, rows))))
        self.assertIsNone(judge_keys(rows=[]))
        self.assertIsNone(judge_keys(()))

    def test_rows(self):
        self.no_rows(judge_keys, 60)
        for count, fault in ((60, None), (61, (-1, "rows"))):
            self.assertEqual(told(judge_keys([(f"n{k}", k, bytes([2 * k + 2])) for k in range(count)])), fault)

    def test_row(self):
        for row in [*NO_SEQUENCES, (), [], ("x",), ("x", 1), ["x", 1, b"\x06", 1], "abc"]:
            self.check(row, "row")

    def test_name(self):
        for name in NO_NAMES:
            self.check((name, 1, b"\x06"), "name")
            self.check([name, None, None], "name")

    def test_value(self):
        for value in NO_VALUES:
            self.check(("x", value, b"\x06"), "value")
            self.check(("a", value, b""), "value")

    def test_key(self):
        for key in NO_KEYS:
            self.check(("x", 1, key), "key")
            self.check(("a", 1, key), "key")

    def test_twice(self):
        for place in range(1, 4):
            for name in [row[0] for row in self.RIGHT[:place]]:
                for key in (b"\x06", b"\x02", b"\x08\x02", b"\x02\x03\x04"):
                    rows = self.RIGHT[:place] + [(name, 1, key)] + self.RIGHT[place:]
                    self.assertEqual(told(judge_keys(rows)), (place, "twice"))

    def test_shared(self):
        for place in range(1, 4):
            for key in [row[2] for row in self.RIGHT[:place]]:
                rows = self.RIGHT[:place] + [("x", 1, key), None]
                self.assertEqual(told(judge_keys(rows)), (place, "shared"))

    def test_parent(self):
        for key in (b"\x06\x02", b"\x02\x02\x02", b"\x02\x03\x04\x02\x02", b"\x03\x04\x02", b"\x02\x03\x06\x02"):
            for place in range(4):
                rows = self.RIGHT[:place] + [("x", 1, key)] + self.RIGHT[place:]
                self.assertEqual(told(judge_keys(rows)), (place, "parent"))
        for key in (b"\x06", b"\x02\x02", b"\x02\x03\x06", b"\x02\x03\x04\x02", b"\x04\xff\x02", b"\x01\x02"):
            self.assertIsNone(judge_keys([("x", 1, key), *self.RIGHT]))

    def test_parent_is_looked_for_behind_all_rows(self):
        lost = ("x", 1, b"\x06\x02")
        self.assertEqual(told(judge_keys([lost, ("y", 1, b"\x08\x02"), *self.RIGHT])), (0, "parent"))
        for row, word in ((None, "row"), (("X", 1, b"\x08"), "name"), (("y", None, b"\x08"), "value"),
                          (("y", 1, b"\x01"), "key"), (("a", 1, b"\x08"), "twice"), (("y", 1, b"\x02"), "shared")):
            self.assertEqual(told(judge_keys([lost, *self.RIGHT, row])), (4, word))
        self.assertIsNone(judge_keys([lost, *self.RIGHT, ("y", 1, b"\x06")]))

    def test_against_the_words_one_by_one(self):
        rng = random.Random(4)
        words = {}
        labels = [b"\x02", b"\x04", b"\x03\x02"]
        keys = [b"".join(some) for count in range(1, 4) for some in itertools.product(labels, repeat=count)]
        for _ in range(4000):
            rows = []
            for name in "abcd"[:rng.randrange(5)]:
                rows.append((name, 1, rng.choice(keys[:rng.choice([3, 12, 39])])))
            rows = spoilt(rng, rows, lambda at: [["a", "N"], [0, None], [b"\x02", b"\x02\x00"]][at])
            answer = told(judge_keys(rows))
            self.assertEqual(answer, slow_keys(rows, labels), rows)
            words[answer and answer[1]] = words.get(answer and answer[1], 0) + 1
        for word in (None, "name", "value", "key", "twice", "shared", "parent"):
            self.assertGreater(words[word], 20, word)

    def test_what_was_handed_in_stays(self):
        rows = [list(row) for row in self.RIGHT]
        judge_keys(rows)
        self.assertEqual(rows, [list(row) for row in self.RIGHT])


def slow_keys(rows, labels):
    """The fault of key rows, rows of three, word by word as the document has it."""
    for place, (name, value, key) in enumerate(rows):
        earlier = rows[:place]
        for word, wrong in (("name", name == "N"), ("value", value is None), ("key", b"\x00" in key),
                            ("twice", name in [one[0] for one in earlier]),
                            ("shared", key in [one[2] for one in earlier])):
            if wrong:
                return place, word
    for place, (_, _, key) in enumerate(rows):
        if key not in labels and not any(one[2] + label == key for one in rows for label in labels):
            return place, "parent"
    return None


class Pairs(Judging):
    RIGHT = pair_rows([("a", 1, 0), ("b", 2, 1), ("c", 3, 0)])

    def check(self, wrong, word):
        self.at_places(judge_pairs, self.RIGHT, wrong, word)

    def test_right_rows(self):
        rng = random.Random(5)
        for rows in all_rows():
            self.assertIsNone(judge_pairs(mixed(rng, pair_rows(rows))))
        self.assertIsNone(judge_pairs(rows=[]))
        self.assertIsNone(judge_pairs(()))

    def test_rows(self):
        self.no_rows(judge_pairs, 1830)
        rows = pair_rows(rows_of(range(60)))
        self.assertEqual(len(rows), 1830)
        self.assertIsNone(judge_pairs(rows))
        for more in (("n0", "n0", 0, 0, 1), None, ("x", "x", 0, 1, 1)):
            self.assertEqual(told(judge_pairs([*rows, more])), (-1, "rows"))
        self.assertEqual(told(judge_pairs([*rows[:-1], rows[0]])), (1829, "twice"))

    def test_row(self):
        for row in [*NO_SEQUENCES, (), [], ("x",), ("x", "x", 0, 1), ["x", "x", 0, 2, 1, 1], "abcde"]:
            self.check(row, "row")

    def test_name(self):
        for name in NO_NAMES:
            self.check((name, "x", 1, 0, 1), "name")
            self.check(["x", name, 1, 0, 1], "name")
            self.check([name, name, None, None, None], "name")

    def test_value(self):
        for value in NO_VALUES:
            self.check(("x", "x", 0, 2, value), "value")
            self.check(("a", "a", 1, None, value), "value")

    def test_steps(self):
        for steps in NO_NUMBERS:
            self.check(("x", "x", steps, 2, 1), "steps")
            self.check(("x", "y", steps, 2, 1), "steps")
            self.check(("a", "a", steps, None, 1), "steps")
        for steps in (1, 2, GREAT):
            self.check(("x", "x", steps, 2, 1), "steps")
        self.check(("x", "y", 0, 2, 1), "steps")
        self.check(("x", "a", 0, None, 1), "steps")

    def test_rank(self):
        for rank in NO_NUMBERS:
            self.check(("x", "x", 0, rank, 1), "rank")
            self.check(("x", "y", 1, rank, 1), "rank")

    def test_rank_ahead_of_twice(self):
        self.assertEqual(told(judge_pairs([*self.RIGHT, ("a", "a", 0, None, 1)])), (4, "rank"))
        self.assertEqual(told(judge_pairs([*self.RIGHT, ("a", "a", 0, GREAT, 1)])), (4, "twice"))

    def test_twice(self):
        for place in range(1, 5):
            for above, below, steps, _, _ in self.RIGHT[:place]:
                for rank, value in ((0, 1), (7, 7)):
                    row = (above, below, 9 if steps else 0, rank, value)
                    self.assertEqual(told(judge_pairs([*self.RIGHT[:place], row, None])), (place, "twice"))
        self.assertEqual(told(judge_pairs([("a", "b", 1, 0, 1), ("b", "a", 1, 0, 1)])), (0, "self"))

    def test_many(self):
        rows = [(f"n{k}", f"n{k}", 0, k, 1) for k in range(60)]
        self.assertIsNone(judge_pairs(rows))
        self.assertEqual(told(judge_pairs([*rows, ("x", "x", 0, 60, 1), None])), (60, "many"))
        self.assertEqual(told(judge_pairs([*rows, ("n0", "x", 1, 0, 1), None])), (60, "many"))
        self.assertEqual(told(judge_pairs([*rows, ("x", "n0", 1, 0, 1), None])), (60, "many"))
        self.assertEqual(told(judge_pairs([*rows[:59], ("x", "y", 1, 0, 1), None])), (59, "many"))
        self.assertEqual(told(judge_pairs([*rows[:58], ("x", "y", 1, 0, 1), None])), (59, "row"))
        self.assertEqual(told(judge_pairs([*rows[:59], ("x", "x", 0, 59, 1), ("x", "y", 1, 0, 1)])), (60, "many"))
        self.assertEqual(told(judge_pairs([*rows, rows[0]])), (60, "twice"))
        for above, below in (("n{}", "x"), ("x", "n{}")):
            rows = [(above.format(k), below.format(k), 1, 0, 1) for k in range(60)]
            self.assertEqual(told(judge_pairs(rows[:59])), (0, "self"))
            self.assertEqual(told(judge_pairs(rows)), (59, "many"))

    def fault(self, rows, place, word):
        self.assertEqual(told(judge_pairs(rows)), (place, word))
        self.assertEqual(told(judge_pairs(tuple(list(row) for row in rows))), (place, word))

    def test_self(self):
        self.fault([("a", "b", 1, 0, 7), ("a", "a", 0, 0, 5)], 0, "self")
        self.fault([("a", "a", 0, 0, 5), ("a", "b", 1, 0, 7)], 1, "self")
        self.fault([("b", "b", 0, 0, 5), ("a", "b", 1, 0, 5)], 1, "self")
        # Ahead of a line in an earlier row.
        self.fault([("a", "a", 0, 0, 5), ("b", "b", 0, 0, 5), ("a", "b", 2, 0, 5), ("a", "c", 1, 0, 5)], 3, "self")

    SELVES = [("a", "a", 0, 0, 1), ("b", "b", 0, 0, 2), ("c", "c", 0, 0, 3), ("d", "d", 0, 0, 4)]

    def test_line(self):
        self.fault([*self.SELVES, ("a", "b", 1, 0, 2), ("c", "b", 1, 0, 2)], 5, "line")
        self.fault([*self.SELVES, ("a", "b", 2, 0, 2)], 4, "line")
        self.fault([*self.SELVES, ("a", "b", 1, 0, 2), ("b", "c", 1, 0, 3), ("a", "c", 3, 0, 3)], 6, "line")
        self.fault([*self.SELVES, ("a", "b", 1, 0, 2), ("d", "c", 2, 0, 3), ("b", "c", 1, 0, 3)], 5, "line")
        self.fault([("a", "c", GREAT, 0, 3), *self.SELVES, ("b", "c", 1, 0, 3), ("a", "b", 1, 0, 2)], 0, "line")
        # The second parent is a fault by the order of the rows; the longer row may use any of the parents.
        self.fault([("d", "b", 2, 0, 2), *self.SELVES, ("a", "b", 1, 0, 2), ("c", "b", 1, 0, 2),
                    ("d", "c", 1, 0, 3)], 6, "line")
        # Ahead of a gap in an earlier row.
        self.fault([*self.SELVES, ("a", "b", 1, 0, 2), ("b", "c", 1, 0, 3), ("a", "d", 2, 0, 4)], 6, "line")

    def test_gap(self):
        self.fault([*self.SELVES, ("a", "b", 1, 0, 2), ("b", "c", 1, 0, 3)], 5, "gap")
        self.fault([*self.SELVES, ("b", "c", 1, 0, 3), ("a", "b", 1, 0, 2)], 4, "gap")
        self.fault([*self.SELVES, ("a", "b", 1, 0, 2), ("b", "a", 1, 0, 1)], 4, "gap")
        # Ahead of ranks and values in earlier rows.
        self.fault([("a", "a", 0, 0, 1), ("b", "b", 0, 0, 2), ("c", "c", 0, 0, 3), ("a", "b", 1, 5, 6),
                    ("b", "c", 1, 5, 6)], 4, "gap")

    def test_ranks(self):
        self.fault([("a", "a", 0, 0, 1), ("b", "b", 0, 0, 2), ("a", "b", 1, 1, 2)], 2, "ranks")
        self.fault([("a", "b", 1, 1, 2), ("a", "a", 0, 0, 1), ("b", "b", 0, 0, 2)], 1, "ranks")
        self.fault([("a", "a", 0, 5, 1), ("b", "b", 0, 5, 2), ("a", "b", 1, 4, 3)], 2, "ranks")

    def test_values(self):
        self.fault([("a", "a", 0, 0, 1), ("b", "b", 0, 0, 2), ("a", "b", 1, 0, 3)], 2, "values")
        self.fault([("a", "b", 1, 0, 3), ("a", "a", 0, 0, 1), ("b", "b", 0, 0, 2)], 2, "values")
        # Ahead of an order in an earlier row.
        self.fault([("a", "a", 0, 5, 1), ("b", "b", 0, 5, 2), ("a", "b", 1, 5, 3)], 2, "values")

    def test_order(self):
        self.fault([("a", "a", 0, 1, 1)], 0, "order")
        self.fault([("a", "a", 0, 0, 1), ("b", "b", 0, 0, 2)], 1, "order")
        self.fault([("a", "a", 0, 0, 1), ("b", "b", 0, 2, 2)], 1, "order")
        self.fault([("a", "a", 0, 1, 1), ("b", "b", 0, 1, 2), ("c", "c", 0, 9, 2)], 1, "order")
        self.fault([("a", "a", 0, GREAT, 1), ("b", "b", 0, 0, 2)], 0, "order")
        self.fault([("a", "a", 0, 0, 1), ("b", "b", 0, 1, 2), ("a", "b", 1, 0, 2)], 1, "order")
        self.assertIsNone(judge_pairs([("a", "a", 0, 1, 1), ("b", "b", 0, 0, 2), ("c", "c", 0, 0, 3),
                                       ("b", "c", 1, 0, 3)]))

    def test_against_the_words_one_by_one(self):
        rng = random.Random(6)
        words = {}
        for turn in range(8000):
            rows = pair_rows(rows_of(rng.choice(list(all_levels(rng.randrange(1, 6))))))
            if turn % 2:
                rows = spoilt(rng, rows, lambda at: [["n0", "N"], ["n1", "n2"], [0, 1, 2], [0, 1, None], [0, None]][at])
            else:
                # Faults of the rows together: numbers that are right one by one.
                rng.shuffle(rows)
                for _ in range(rng.randrange(3)):
                    place = rng.randrange(len(rows))
                    above, below, steps, rank, value = rows[place]
                    rows[place] = rng.choice([(above, below, rng.randrange(1, 4) if steps else 0, rank, value),
                                              (above, below, steps, rng.randrange(3), value),
                                              (above, below, steps, rank, rng.randrange(3))])
                if rng.randrange(2):
                    del rows[rng.randrange(len(rows))]
            answer = told(judge_pairs(rows))
            self.assertEqual(answer, slow_pairs(rows), rows)
            words[answer and answer[1]] = words.get(answer and answer[1], 0) + 1
        for word in (None, "name", "value", "steps", "rank", "twice", "self", "line", "gap", "ranks", "values",
                     "order"):
            self.assertGreater(words[word], 20, (word, words))

    def test_none_exactly_for_the_rows_of_a_forest(self):
        # All sets of rows over two names, with small numbers, against the rows of all forests of these names.
        rows = [(above, below, steps, rank, 0) for above in "ab" for below in "ab" for rank in (0, 1)
                for steps in ([0] if above == below else [1, 2])]
        forests = [[]]
        for names in ("a", "b", "ab", "ba"):
            for levels in all_levels(len(names)):
                forests.append(sorted(pair_rows([(name, 0, level) for name, level in zip(names, levels)])))
        for count in range(5):
            for some in itertools.combinations(rows, count):
                self.assertEqual(judge_pairs(some) is None, sorted(some) in forests, some)

    def test_what_was_handed_in_stays(self):
        rows = [list(row) for row in self.RIGHT]
        judge_pairs(rows)
        self.assertEqual(rows, [list(row) for row in self.RIGHT])


def slow_pairs(rows):
    """The fault of pair rows, rows of five, word by word as the document has it."""
    for place, (above, below, steps, rank, value) in enumerate(rows):
        for word, wrong in (("name", "N" in (above, below)), ("value", value is None),
                            ("steps", steps not in range(10) or (steps == 0) != (above == below)),
                            ("rank", rank is None), ("twice", (above, below) in [one[:2] for one in rows[:place]])):
            if wrong:
                return place, word
    there = {row[:3] for row in rows}
    names = {name for row in rows for name in row[:2]}

    def siblings(name):
        own = {p for p in names if (p, name, 1) in there}
        return [row for row in rows if row[0] == row[1] and {p for p in names if (p, row[0], 1) in there} == own]

    for word in ("self", "line", "gap", "ranks", "values", "order"):
        for place, row in enumerate(rows):
            above, below, steps, rank, value = row
            earlier = rows[:place]
            if word == "self":
                wrong = (above, above, 0) not in there or (below, below, 0) not in there
            elif word == "line":
                wrong = (steps == 1 and any(one[1:3] == (below, 1) for one in earlier)
                         or steps > 1 and not any((p, below, 1) in there and (above, p, steps - 1) in there
                                                  for p in names))
            elif word == "gap":
                wrong = any((q, above, 1) in there and (q, below, steps + 1) not in there for q in names)
            elif word == "ranks":
                wrong = any(one[0] == above and one[3] != rank for one in earlier)
            elif word == "values":
                wrong = any(one[1] == below and one[4] != value for one in earlier)
            else:
                wrong = above == below and (rank >= len(siblings(above)) or any(
                    one in earlier and one[3] == rank for one in siblings(above)))
            if wrong:
                return place, word
    return None


class Walk(unittest.TestCase):
    def test_pairs_in_preorder(self):
        rng = random.Random(8)
        for rows in all_rows():
            spans = mixed(rng, with_numbers(rows, some_numbers(rng, 2 * len(rows), 10 ** 6)))
            self.assertEqual(list(walk_spans(spans)), [(level, name) for name, _, level in rows])
        for levels in large_levels().values():
            spans = mixed(rng, with_numbers(rows_of(levels), range(120)))
            self.assertEqual([level for level, _ in walk_spans(rows=spans)], list(levels))

    def test_it_is_a_generator(self):
        rows = [["b", 2, 1, 2], ("a", 1, 0, 3)]
        self.assertTrue(inspect.isgeneratorfunction(walk_spans))
        walk = walk_spans(rows)
        self.assertTrue(inspect.isgenerator(walk))
        self.assertEqual(next(walk), (0, "a"))
        self.assertEqual(list(walk_spans(rows)), [(0, "a"), (1, "b")])
        self.assertEqual(list(walk), [(1, "b")])
        self.assertEqual(list(walk), [])
        self.assertEqual(rows, [["b", 2, 1, 2], ("a", 1, 0, 3)])
        self.assertTrue(all(type(pair) is tuple for pair in walk_spans(rows)))
        self.assertEqual(list(walk_spans([])), [])


if __name__ == "__main__":
    unittest.main()
