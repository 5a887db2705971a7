"""What the tests of key tables and of pair tables share: what [8] tells of every table."""

from forestrows.deeds import Cut
from forestrows.errors import NoNode, NoPlace, NoTable, NoValue
from forestrows.forests import Forest
from forestrows.judging import Fault
from forestrows.spans import Span
from playing import OF_ONE, OF_TWO, answers
from shapes import all_rows

GREAT = 10 ** 30
# The forest of the tables that `small` makes.
FOREST = (("a", 1, 0), ("b", 2, 1), ("c", 3, 0))
ANYTHING = [None, True, False, 0, 1, -1, "", "a", "A", b"", b"a", [], ["a"], (), ("a",), (1, 2), {}, {"a": 1},
            range(3), Forest([]), Cut("a"), Cut, len, Fault(1, 2), NoNode(1), [None], [[]], [("a",)]]
NO_NODES = [None, True, False, 0, 1, "", "x", "A", "aa", "abcdefghi", b"a", b"\x02", ["a"], ("a",), ("a", "a"), {},
            {"a": 1}, Cut("a"), Forest([]), range(1), Span(1, 2), slice(0, 1)]
NO_VALUES = [None, True, False, "1", b"1", GREAT + 1, -GREAT - 1, [1], (1,), {}, Forest([]), Span(1, 2)]


class Tabled:
    """Tests of a kind of tables.

    A class below has `kind`, `rows` of the small forest in their order, `judge`, `rows_for(forest)`, which makes right
    rows in any order, and `with_value(row, name, value)`, the row once the node has the value.
    """

    def small(self):
        return self.kind(self.rows)

    def tables(self):
        """Tables of rows in any order and laid ones, each with its forest."""
        for rows in all_rows():
            forest = Forest(rows)
            yield self.kind(self.rows_for(rows)), forest
            yield self.kind.laid(forest), forest

    def test_in_any_order(self):
        rows = self.rows
        for given in (rows, rows[::-1], [*rows[1:], rows[0]], [list(row) for row in rows],
                      tuple(list(row) for row in rows[::-1])):
            table = self.kind(given)
            self.assertEqual(table.rows, rows)
            self.assertIs(type(table.rows), tuple)
            self.assertTrue(all(type(row) is tuple for row in table.rows))
            self.assertEqual(len(table), 3)
        self.assertEqual(self.kind(rows=rows).rows, rows)
        self.assertIn("rows", vars(table))

    def test_rows_that_judging_finds_right(self):
        for rows in all_rows():
            given = self.rows_for(rows)
            kept = repr(given)
            self.assertIsNone(self.judge(given))
            table = self.kind(given)
            self.assertEqual(sorted(table.rows), sorted(tuple(row) for row in given))
            self.assertEqual((table.forest().rows, len(table)), (tuple(rows), len(rows)))
            self.assertIsNone(self.judge(table.rows))
            self.assertEqual(repr(given), kept)

    def test_without_nodes(self):
        for given in ([], ()):
            table = self.kind(given)
            self.assertEqual((table.rows, len(table), table.forest(), table.names()), ((), 0, Forest([]), []))
            self.assertEqual(answers(table), answers(Forest([])))
        self.assertEqual(self.kind.laid(Forest([])).rows, ())

    def test_later_changes_have_no_effect(self):
        rows = [list(row) for row in self.rows]
        table = self.kind(rows)
        for row in rows:
            row[-1] = 7
        rows.pop()
        self.assertEqual(table.rows, self.rows)
        self.assertEqual(answers(table), answers(Forest(FOREST)))

    def test_what_was_handed_in_stays_as_it_was(self):
        rows = [list(row) for row in self.rows[::-1]]
        forest = Forest(FOREST)
        tables = [self.kind(rows), self.kind.laid(forest)]
        for table in tables:
            table["a"] = 9
            table.apply(Cut("b"))
        self.assertEqual(rows, [list(row) for row in self.rows[::-1]])
        self.assertEqual(forest.rows, FOREST)

    def test_two_tables_of_the_same_rows(self):
        one, other = self.small(), self.small()
        one["a"] = 9
        one.apply(Cut("c"))
        self.assertEqual((other.rows, other["a"], len(other)), (self.rows, 1, 3))

    def test_no_table(self):
        for rows in [*ANYTHING, [*self.rows, None], [None, *self.rows], self.rows[1:], self.rows[:1] + self.rows[2:],
                     [*self.rows, self.rows[0]]]:
            fault = self.judge(rows)
            if fault is not None:
                with self.assertRaises(NoTable) as caught:
                    self.kind(rows)
                self.assertEqual((caught.exception.place, caught.exception.why), (fault.place, fault.word))

    def test_all_questions(self):
        for table, forest in self.tables():
            self.assertEqual(answers(table), answers(forest), table.rows)
            self.assertEqual(table.forest(), forest)
            self.assertIsNot(table.forest(), table.forest())

    def test_len_and_in(self):
        for table, forest in self.tables():
            self.assertEqual(len(table), len(forest))
            for name in [*forest, "other", "a"]:
                self.assertIs(name in table, name in forest)
        for thing in NO_NODES:
            self.assertIs(thing in self.small(), False)
            self.assertIs(thing not in self.small(), True)

    def test_by_keyword(self):
        table = self.small()
        for question in OF_ONE:
            ask = getattr(table, question)
            self.assertEqual(ask(name="b"), ask("b"))
        for question in OF_TWO:
            ask = getattr(table, question)
            self.assertEqual(ask(other="b", one="a"), ask("a", "b"))
        self.assertEqual(table.name_at(place=2), "c")
        self.assertEqual(table.apply(deed=Cut("c")), self.small().apply(Cut("c")))
        self.assertEqual(table.become(forest=Forest(FOREST)).added[-1:], self.small().become(Forest([])).gone[-1:])
        self.assertEqual(self.kind.laid(forest=Forest(FOREST)).rows, self.rows)

    def test_each_list_is_new(self):
        table = self.small()
        for ask, given in ((table.names, ()), (table.roots, ()), (table.leaves, ()), (table.children_of, ("a",)),
                           (table.ancestors_of, ("b",)), (table.descendants_of, ("a",)), (table.children_of, ("c",))):
            before = ask(*given)
            self.assertIs(type(before), list)
            kept = list(before)
            before.append("x")
            before[0] = "y"
            self.assertEqual(ask(*given), kept)
        self.assertEqual((table.rows, table.names()), (self.rows, ["a", "b", "c"]))

    def test_it_cannot_be_iterated_over(self):
        for table in (self.small(), self.kind([])):
            with self.assertRaises(TypeError):
                iter(table)
            with self.assertRaises(TypeError):
                list(table)
            with self.assertRaises(TypeError):
                sorted(table)

    def test_flags(self):
        table = self.small()
        for one, other, answer in (("a", "b", True), ("b", "a", False), ("a", "a", False), ("a", "c", False)):
            self.assertIs(table.is_above(one, other), answer)

    def test_totals_beyond_the_bounds_of_values(self):
        table = self.kind.laid(Forest([("a", GREAT, 0), ("b", GREAT, 1), ("c", -GREAT, 0), ("d", -GREAT, 1)]))
        self.assertEqual([table.total_of(name) for name in "abcd"], [2 * GREAT, GREAT, -2 * GREAT, -GREAT])

    def no_node(self, wrong, ask, *given):
        with self.assertRaises(NoNode) as caught:
            ask(*given)
        self.assertIs(caught.exception.name, wrong)

    def test_no_node(self):
        for table in (self.small(), self.kind([])):
            for thing in NO_NODES:
                for question in OF_ONE:
                    self.no_node(thing, getattr(table, question), thing)
                self.no_node(thing, lambda: table[thing])

    def test_no_node_of_two(self):
        table = self.small()
        for question in OF_TWO:
            ask = getattr(table, question)
            for thing in NO_NODES:
                self.no_node(thing, ask, thing, "a")
                self.no_node(thing, ask, "a", thing)
                self.no_node(thing, ask, thing, ["y"])

    def test_no_place(self):
        for rows in ((), FOREST, [(f"n{place}", 0, 0) for place in range(60)]):
            table = self.kind.laid(Forest(rows))
            for thing in (-1, len(rows), len(rows) + 1, GREAT, None, True, False, "0", b"0", [0], (), {}, "a", table):
                with self.assertRaises(NoPlace) as caught:
                    table.name_at(thing)
                self.assertIs(caught.exception.place, thing)

    def test_values_read_and_set(self):
        for table, forest in self.tables():
            self.assertEqual([table[name] for name in forest], [row[1] for row in forest.rows])
        for name in "abc":
            for value in (0, -5, GREAT, -GREAT):
                table = self.small()
                before = table.rows
                table[name] = value
                self.assertEqual(table.rows, tuple(self.with_value(row, name, value) for row in self.rows))
                self.assertEqual((table[name], table.value_of(name), before), (value, value, self.rows))
                rows = [(one, value if one == name else worth, level) for one, worth, level in FOREST]
                self.assertEqual(answers(table), answers(Forest(rows)))
                self.assertEqual(table.forest(), Forest(rows))

    def test_values_set_in_large_tables(self):
        for table, forest in self.tables():
            for place in {0, len(forest) // 2, len(forest) - 1} if len(forest) else ():
                name, before = forest.name_at(place), table.rows
                table[name] = 77
                self.assertEqual(table.rows, tuple(self.with_value(row, name, 77) for row in before))

    def test_no_node_ahead_of_no_value(self):
        table = self.small()
        for thing in NO_NODES:
            for value in (1, None, True, GREAT + 1):
                with self.assertRaises(NoNode) as caught:
                    table[thing] = value
                self.assertIs(caught.exception.name, thing)
        for value in NO_VALUES:
            with self.assertRaises(NoValue) as caught:
                table["b"] = value
            self.assertIs(caught.exception.value, value)
        table["b"] += 5
        with self.assertRaises(NoValue):
            table["b"] += GREAT
        self.assertEqual((table["b"], table["a"]), (7, 1))

    def test_what_only_span_tables_have(self):
        for word in ("span_of", "limit", "set_bound"):
            self.assertFalse(hasattr(self.small(), word))
