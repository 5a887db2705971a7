"""Spans, and span tables with their rows, errors and answers ([7], [8])."""

import random
import unittest

from forestrows.deeds import Cut, Put
from forestrows.errors import Full, NoBound, NoNode, NoPlace, NoTable, NoValue
from forestrows.forests import Forest
from forestrows.judging import Fault, judge_spans
from forestrows.spans import Span, SpanTable
from playing import OF_ONE, OF_TWO, answers
from shapes import all_levels, all_rows, large_levels, rows_of
from spanning import forest_of, some_numbers, with_numbers

GREAT = 10 ** 30
ROWS = (("a", 1, 5, 35), ("b", 2, 15, 25), ("c", 3, 45, 55))
ANYTHING = [None, True, False, 0, 1, -1, "", "a", "A", b"", b"a", [], ["a"], (), ("a",), (1, 2), {}, {"a": 1},
            range(3), Forest([]), Cut("a"), Cut, len, Fault(1, 2), NoBound(1)]
NO_NODES = [None, True, False, 0, 1, "", "x", "A", "aa", "abcdefghi", b"a", ["a"], ("a",), ("a", 1), {}, {"a": 1},
            Cut("a"), Forest([]), range(1), Span(1, 2), slice(0, 1)]
NO_VALUES = [None, True, False, "1", b"1", GREAT + 1, -GREAT - 1, [1], (1,), {}, Forest([]), Span(1, 2)]


class Spans(unittest.TestCase):
    def test_fields(self):
        for thing in [*ANYTHING, GREAT]:
            self.assertIs(Span(thing, 0).left, thing)
            self.assertIs(Span(0, thing).right, thing)
        span = Span(right=7, left=3)
        self.assertEqual((span.left, span.right), (3, 7))
        self.assertEqual(sorted(vars(span)), ["left", "right"])

    def test_in_and_before(self):
        spans = [Span(left, right) for left in range(6) for right in range(left + 1, 6)]
        for one in spans:
            for other in spans:
                self.assertIs(one in other, other.left < one.left and one.right < other.right)
                self.assertIs(one not in other, not (other.left < one.left and one.right < other.right))
                self.assertIs(one << other, one.right < other.left)

    def test_edges(self):
        self.assertIs(Span(2, 3) in Span(1, 4), True)
        for one in (Span(1, 4), Span(1, 3), Span(2, 4), Span(0, 5), Span(2, 5)):
            self.assertIs(one in Span(1, 4), False)
        self.assertIs(Span(1, 2) << Span(3, 4), True)
        self.assertIs(Span(1, 2) << Span(2, 4), False)
        self.assertIs(Span(3, 4) << Span(1, 2), False)
        self.assertIs(Span(0, 1) << Span(GREAT, GREAT + 1), True)

    def test_what_is_no_span_is_not_in_one(self):
        for thing in [*ANYTHING, Span, SpanTable(ROWS, 60)]:
            self.assertIs(thing in Span(0, 9), False)
            self.assertIs(thing not in Span(0, 9), True)

    def test_equality(self):
        self.assertIs(Span(1, 2) == Span(1, 2), True)
        self.assertIs(Span(1, 2) == Span(True, 2), True)
        self.assertIs(Span(1, 2) != Span(1, 2), False)
        for thing in [*ANYTHING, Span(1, 3), Span(0, 2), Span(2, 1), Span, [1, 2], Put(1, 2, 3, 4)]:
            self.assertIs(Span(1, 2) == thing, False)
            self.assertIs(thing == Span(1, 2), False)
            self.assertIs(Span(1, 2) != thing, True)

    def test_they_stay_as_they_were(self):
        one, other = Span(1, 4), Span(2, 3)
        self.assertEqual((one << other, other in one, one == other), (False, True, False))
        self.assertEqual((vars(one), vars(other)), ({"left": 1, "right": 4}, {"left": 2, "right": 3}))


class Rows(unittest.TestCase):
    def test_in_any_order(self):
        for rows in (ROWS, ROWS[::-1], [ROWS[1], ROWS[2], ROWS[0]], [list(row) for row in ROWS],
                     tuple(list(row) for row in ROWS[::-1])):
            table = SpanTable(rows, 60)
            self.assertEqual(table.rows, ROWS)
            self.assertIs(type(table.rows), tuple)
            self.assertTrue(all(type(row) is tuple for row in table.rows))
            self.assertEqual((len(table), table.limit), (3, 60))
        self.assertEqual(SpanTable(most=60, rows=ROWS).rows, ROWS)

    def test_without_nodes(self):
        for rows in ([], ()):
            for most in (1, 2, GREAT):
                table = SpanTable(rows, most)
                self.assertEqual((table.rows, len(table), table.limit), ((), 0, most))
                self.assertEqual(table.forest(), Forest([]))

    def test_later_changes_have_no_effect(self):
        rows = [list(row) for row in ROWS]
        table = SpanTable(rows, 60)
        rows[0][1] = 7
        rows[1][2] = 16
        rows.pop()
        self.assertEqual(table.rows, ROWS)
        self.assertEqual(answers(table), answers(forest_of(ROWS)))

    def test_what_was_handed_in_stays_as_it_was(self):
        rows = [list(row) for row in ROWS[::-1]]
        table = SpanTable(rows, 60)
        table["a"] = 9
        table.apply(Cut("b"))
        self.assertEqual(rows, [list(row) for row in ROWS[::-1]])

    def test_two_tables_of_the_same_rows(self):
        one, other = SpanTable(ROWS, 60), SpanTable(ROWS, 60)
        one["a"] = 9
        one.apply(Cut("c"))
        self.assertEqual((other.rows, other["a"]), (ROWS, 1))

    def test_most_rows(self):
        rows = with_numbers(rows_of([0] * 60), range(120))
        self.assertEqual(len(SpanTable(rows, 120)), 60)
        with self.assertRaises(NoTable) as caught:
            SpanTable(with_numbers(rows_of([0] * 61), range(122)), 122)
        self.assertEqual((caught.exception.place, caught.exception.why), (-1, "rows"))

    def test_no_bound(self):
        for most in (None, True, False, 0, -1, GREAT + 1, "60", b"60", [60], (), {}, Forest([])):
            for rows in (ROWS, None, [None], []):
                with self.assertRaises(NoBound) as caught:
                    SpanTable(rows, most)
                self.assertIs(caught.exception.most, most)

    def test_no_table(self):
        for wrong in (None, ("A", 1, 0, 1), ("x", None, 0, 1), ("x", 1, 0, 60), ("x", 1, 1, 1), ("a", 1, 0, 1),
                      ("x", 1, 5, 6), ("x", 1, 0, 6)):
            for rows in ([*ROWS, wrong], (wrong, *ROWS), [ROWS[0], wrong, None], [wrong]):
                fault = judge_spans(rows, 60)
                if fault is None:
                    self.assertEqual(len(SpanTable(rows, 60)), len(rows))
                    continue
                with self.assertRaises(NoTable) as caught:
                    SpanTable(rows, 60)
                self.assertEqual((caught.exception.place, caught.exception.why), (fault.place, fault.word))
        for thing in ANYTHING:
            fault = judge_spans(thing, 60)
            if fault is not None:
                with self.assertRaises(NoTable) as caught:
                    SpanTable(thing, 60)
                self.assertEqual((caught.exception.place, caught.exception.why), (fault.place, fault.word))

    def test_no_table_with_words_told_by_hand(self):
        for rows, place, why in ((None, -1, "rows"), ([None], 0, "row"), ([*ROWS, ("a", 1, 0, 1)], 3, "twice"),
                                 ([*ROWS, ("x", 1, 0, 6), None], 3, "crossed"),
                                 ([*ROWS, ("x", 1, 0, 35)], 3, "shared")):
            with self.assertRaises(NoTable) as caught:
                SpanTable(rows, 60)
            self.assertEqual((caught.exception.place, caught.exception.why), (place, why))


class Laid(unittest.TestCase):
    def test_numbers(self):
        for rows in all_rows():
            count = len(rows)
            forest = Forest(rows)
            for most in (max(1, 2 * count), 2 * count + 1, 3 * count + 2, 1000, GREAT):
                table = SpanTable.laid(forest, most=most)
                numbers = [(2 * k + 1) * most // (4 * count) for k in range(2 * count)]
                self.assertEqual(table.rows, tuple(with_numbers(rows, numbers)))
                self.assertEqual(table.limit, most)
                self.assertIsNone(judge_spans(table.rows, most))
                self.assertEqual(table.forest(), forest)
            self.assertEqual(forest.rows, tuple(rows))

    def test_example(self):
        table = SpanTable.laid(Forest([("a", 1, 0), ("b", 2, 1), ("c", 3, 0)]), most=60)
        self.assertIsInstance(table, SpanTable)
        self.assertEqual(table.rows, ROWS)

    def test_errors(self):
        full = Forest(rows_of(range(60)))
        for most in (None, True, 0, -1, GREAT + 1, "9", [9], Forest([])):
            for forest in (full, Forest([])):
                with self.assertRaises(NoBound) as caught:
                    SpanTable.laid(forest, most=most)
                self.assertIs(caught.exception.most, most)
        for count in range(1, 61):
            forest = Forest(rows_of([0] * count))
            for most in (1, 2 * count - 1):
                with self.assertRaises(Full) as caught:
                    SpanTable.laid(forest, most=most)
                self.assertEqual(caught.exception.needed, 2 * count)
            self.assertEqual(len(SpanTable.laid(forest=forest, most=2 * count)), count)
        self.assertEqual(SpanTable.laid(Forest([]), most=1).rows, ())

    def test_most_is_passed_by_keyword_alone(self):
        with self.assertRaises(TypeError):
            SpanTable.laid(Forest([]), 60)


def tables():
    """Tables of forests of several shapes, with tight, near and far numbers, of rows in any order."""
    rng = random.Random(1)
    for rows in all_rows():
        count = 2 * len(rows)
        most = rng.choice([max(1, count), count + 5, 1000, GREAT])
        spans = with_numbers(rows, some_numbers(rng, count, most))
        rng.shuffle(spans)
        yield SpanTable(spans, most), Forest(rows)


class Answers(unittest.TestCase):
    def test_all_questions(self):
        for table, forest in tables():
            self.assertEqual(answers(table), answers(forest), table.rows)
            self.assertEqual(table.forest(), forest)
            self.assertEqual(table.forest(), forest_of(table.rows))
            self.assertIsNot(table.forest(), table.forest())

    def test_spans(self):
        for table, forest in tables():
            for name, _, left, right in table.rows:
                self.assertEqual(table.span_of(name), Span(left, right))
            names = table.names()[:8] + table.names()[-8:]
            for one in names:
                for other in names:
                    self.assertIs(table.span_of(one) in table.span_of(other), table.is_above(other, one))
        self.assertEqual(SpanTable(ROWS, 60).span_of(name="b"), Span(15, 25))

    def test_len_and_in(self):
        for table, forest in tables():
            self.assertEqual(len(table), len(forest))
            for name in [*forest, "other", "a"]:
                self.assertIs(name in table, name in forest)
        for thing in NO_NODES:
            self.assertIs(thing in SpanTable(ROWS, 60), False)
            self.assertIs(thing not in SpanTable(ROWS, 60), True)

    def test_by_keyword(self):
        table = SpanTable(ROWS, 60)
        for question in OF_ONE:
            ask = getattr(table, question)
            self.assertEqual(ask(name="b"), ask("b"))
        for question in OF_TWO:
            ask = getattr(table, question)
            self.assertEqual(ask(other="b", one="a"), ask("a", "b"))
        self.assertEqual(table.name_at(place=2), "c")

    def test_each_list_is_new(self):
        table = SpanTable(ROWS, 60)
        for ask, given in ((table.names, ()), (table.roots, ()), (table.leaves, ()), (table.children_of, ("a",)),
                           (table.ancestors_of, ("b",)), (table.descendants_of, ("a",)), (table.children_of, ("c",))):
            before = ask(*given)
            self.assertIs(type(before), list)
            kept = list(before)
            before.append("x")
            before[0] = "y"
            self.assertEqual(ask(*given), kept)
        self.assertEqual(table.rows, ROWS)

    def test_it_cannot_be_iterated_over(self):
        for table in (SpanTable(ROWS, 60), SpanTable([], 1)):
            with self.assertRaises(TypeError):
                iter(table)
            with self.assertRaises(TypeError):
                list(table)
            with self.assertRaises(TypeError):
                for _ in table:
                    self.fail()
            with self.assertRaises(TypeError):
                sorted(table)

    def test_flags(self):
        table = SpanTable(ROWS, 60)
        for one, other, answer in (("a", "b", True), ("b", "a", False), ("a", "a", False), ("a", "c", False)):
            self.assertIs(table.is_above(one, other), answer)

    def test_totals_beyond_the_bounds_of_values(self):
        table = SpanTable([("a", GREAT, 0, 3), ("b", GREAT, 1, 2)], 4)
        self.assertEqual((table.total_of("a"), table.total_of("b")), (2 * GREAT, GREAT))


class WrongNames(unittest.TestCase):
    def check(self, wrong, ask, *given):
        with self.assertRaises(NoNode) as caught:
            ask(*given)
        self.assertIs(caught.exception.name, wrong)

    def test_no_node(self):
        for table in (SpanTable(ROWS, 60), SpanTable([], 1)):
            for thing in NO_NODES:
                for question in (*OF_ONE, "span_of"):
                    self.check(thing, getattr(table, question), thing)
                self.check(thing, lambda: table[thing])

    def test_no_node_of_two(self):
        table = SpanTable(ROWS, 60)
        for question in OF_TWO:
            ask = getattr(table, question)
            for thing in NO_NODES:
                self.check(thing, ask, thing, "a")
                self.check(thing, ask, "a", thing)
                self.check(thing, ask, thing, ["y"])

    def test_no_place(self):
        for rows in ((), ROWS, with_numbers(rows_of([0] * 60), range(120))):
            table = SpanTable(rows, 120)
            for thing in (-1, len(rows), len(rows) + 1, GREAT, None, True, False, "0", b"0", [0], (), {}, "a", table):
                with self.assertRaises(NoPlace) as caught:
                    table.name_at(thing)
                self.assertIs(caught.exception.place, thing)


class Values(unittest.TestCase):
    def test_read(self):
        for table, forest in tables():
            self.assertEqual([table[name] for name in forest], [row[1] for row in forest.rows])

    def test_set(self):
        for name, place in (("a", 0), ("b", 1), ("c", 2)):
            for value in (0, -5, GREAT, -GREAT):
                table = SpanTable(ROWS[::-1], 60)
                table[name] = value
                rows = list(ROWS)
                rows[place] = (name, value, *ROWS[place][2:])
                self.assertEqual(table.rows, tuple(rows))
                self.assertEqual((table[name], table.value_of(name), table.limit), (value, value, 60))
                self.assertEqual(answers(table), answers(forest_of(rows)))

    def test_rows_that_were_read_stay_as_they_were(self):
        table = SpanTable(ROWS, 60)
        rows, forest = table.rows, table.forest()
        table["a"] = 8
        self.assertEqual((rows, forest), (ROWS, forest_of(ROWS)))

    def test_no_node_ahead_of_no_value(self):
        table = SpanTable(ROWS, 60)
        for thing in NO_NODES:
            for value in (1, None, True, GREAT + 1):
                with self.assertRaises(NoNode) as caught:
                    table[thing] = value
                self.assertIs(caught.exception.name, thing)
        for value in NO_VALUES:
            with self.assertRaises(NoValue) as caught:
                table["b"] = value
            self.assertIs(caught.exception.value, value)
        self.assertEqual((table.rows, table.limit), (ROWS, 60))

    def test_added_to(self):
        table = SpanTable(ROWS, 60)
        table["b"] += 5
        self.assertEqual(table["b"], 7)
        with self.assertRaises(NoValue):
            table["b"] += GREAT
        self.assertEqual(table["b"], 7)


class Limit(unittest.TestCase):
    def test_it_is_a_property_that_is_only_read(self):
        self.assertIsInstance(vars(SpanTable)["limit"], property)
        table = SpanTable(ROWS, 60)
        with self.assertRaises(AttributeError):
            table.limit = 70
        self.assertEqual(table.limit, 60)


class Shapes(unittest.TestCase):
    def test_the_shapes_are_many(self):
        self.assertEqual(len(list(tables())), sum(len(list(all_levels(count))) for count in range(7))
                         + len(large_levels()))


if __name__ == "__main__":
    unittest.main()
