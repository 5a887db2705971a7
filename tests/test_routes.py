"""Routes, tests, ask and turned ([23], [24])."""

import random
import unittest

from forestrows.deeds import Cut
from forestrows.errors import NoName, NoNode, NoRoute, NoValue, TooLarge
from forestrows.forests import Forest
from forestrows.keys import KeyTable
from forestrows.pairs import PairTable
from forestrows.routes import Has, NameIs, Route, Test, ValueIn, ask, turned
from forestrows.spans import SpanTable
from playing import history
from shapes import all_levels, all_rows, large_levels, rows_of
from walking import AXES, Slow, built, route_of, some_steps, some_test

GREAT = 10 ** 30
ROWS = [("a", 1, 0), ("b", 2, 1), ("c", 3, 2), ("d", 4, 1), ("e", 5, 0)]
FOREST = Forest(ROWS)
NO_NAMES = [None, True, 0, 1, "", "A", "1a", "abcdefghi", "a b", b"a", ["a"], ("a",), {}, Forest([])]
NO_VALUES = [True, False, "1", b"1", GREAT + 1, -GREAT - 1, [1], (1,), {}, Forest([])]
NO_ROUTES = [None, True, 0, "", "child", b"", [], [("child", None)], (), {}, FOREST, Cut("a"), NameIs("a"), Route]
NO_NODES = [None, True, False, 0, "", "x", "A", "abcdefghi", b"a", ["a"], ("a",), {}, FOREST, range(1)]


def things(rows):
    """A forest and its three tables."""
    forest = Forest(rows)
    return [forest, SpanTable.laid(forest, most=1000), KeyTable.laid(forest), PairTable.laid(forest)]


def sized(size, test=None):
    """A test of a size, by signs alone."""
    test = test or NameIs("a")
    for _ in range(size - 1):
        test = ~test
    return test


class Axes(unittest.TestCase):
    def test_each_axis_from_each_node(self):
        shapes = [rows_of(levels) for count in range(6) for levels in all_levels(count)]
        for rows in shapes:
            slow = Slow(rows)
            for thing in things(rows):
                for axis in AXES:
                    for name in slow.names:
                        self.assertEqual(ask(thing, Route([(axis, None)]), name), slow.led([(axis, None)], name),
                                         (rows, axis, name))

    def test_large_forests(self):
        for levels in large_levels().values():
            rows = rows_of(levels)
            slow = Slow(rows)
            for thing in things(rows):
                for axis in AXES:
                    for name in ("n0", "n1", "n29", "n30", "n58", "n59"):
                        self.assertEqual(ask(thing, Route([(axis, None)]), name), slow.led([(axis, None)], name))

    def test_by_hand(self):
        for axis, name, found in (
                ("self", "b", ["b"]), ("parent", "c", ["b"]), ("parent", "a", []), ("child", "a", ["b", "d"]),
                ("ancestor", "c", ["a", "b"]), ("descendant", "a", ["b", "c", "d"]), ("previous", "d", ["b"]),
                ("next", "b", ["d"]), ("next", "a", ["e"]), ("previous", "e", ["a"]), ("preceding", "d", ["b", "c"]),
                ("preceding", "e", ["a", "b", "c", "d"]), ("following", "b", ["d", "e"]), ("following", "a", ["e"]),
                ("following", "e", []), ("child", "c", []), ("preceding", "c", []), ("next", "c", [])):
            for thing in things(ROWS):
                self.assertEqual(ask(thing, Route([(axis, None)]), name), found)

    def test_five_axes_have_each_node_once(self):
        for rows in all_rows():
            names = [row[0] for row in rows]
            for name in names[:5] + names[-5:]:
                found = [one for axis in ("self", "ancestor", "descendant", "preceding", "following")
                         for one in ask(Forest(rows), Route([(axis, None)]), name)]
                self.assertEqual(sorted(found), sorted(names))


class Tests(unittest.TestCase):
    def met(self, test, rows=ROWS):
        """Where a test is met, the same by the forest and all tables."""
        told = [[name for name in thing.names() if test(thing, name)] for thing in things(rows)]
        self.assertEqual(told, [told[0]] * 4)
        for name, _, _ in rows:
            self.assertIs(type(test(Forest(rows), name)), bool)
        return told[0]

    def test_name_is(self):
        for name in "abcde":
            self.assertEqual(self.met(NameIs(name)), [name])
        self.assertEqual(self.met(NameIs("nobody")), [])
        self.assertEqual(self.met(NameIs(name="b")), ["b"])

    def test_value_in(self):
        for low, high, found in ((2, 4, "bcd"), (None, 2, "ab"), (4, None, "de"), (None, None, "abcde"), (3, 3, "c"),
                                 (4, 2, ""), (GREAT, -GREAT, ""), (-GREAT, GREAT, "abcde"), (0, 0, ""),
                                 (6, None, ""), (None, 0, ""), (1, 1, "a"), (5, 5, "e")):
            self.assertEqual(self.met(ValueIn(low, high)), list(found))
            self.assertEqual(self.met(ValueIn(high=high, low=low)), list(found))
        rows = [("a", GREAT, 0), ("b", -GREAT, 0), ("c", 0, 0)]
        for low, high, found in ((GREAT, None, "a"), (None, -GREAT, "b"), (0, GREAT, "ac"), (-GREAT, 0, "bc"),
                                 (GREAT, GREAT, "a"), (1 - GREAT, GREAT - 1, "c")):
            self.assertEqual(self.met(ValueIn(low, high), rows), list(found))

    def test_has(self):
        for steps, found in (([], "abcde"), ([("child", None)], "ab"), ([("parent", None)], "bcd"),
                             ([("child", NameIs("c"))], "b"), ([("child", None), ("child", None)], "a"),
                             ([("next", ValueIn(5, None))], "a"), ([("ancestor", None), ("next", None)], "bcd"),
                             ([("descendant", ValueIn(9, None))], "")):
            self.assertEqual(self.met(Has(Route(steps))), list(found))
            self.assertEqual(self.met(Has(route=Route(steps))), list(found))

    def test_signs(self):
        one, other = ValueIn(2, 4), ValueIn(4, None)
        self.assertEqual(self.met(one & other), ["d"])
        self.assertEqual(self.met(one | other), ["b", "c", "d", "e"])
        self.assertEqual(self.met(~one), ["a", "e"])
        self.assertEqual(self.met(~(one & other) & ~NameIs("a")), ["b", "c", "e"])
        self.assertEqual(self.met(one & other | ~one & ~other), ["a", "d"])
        self.assertEqual(self.met(~~Has(Route([("child", None)]))), ["a", "b"])
        self.assertEqual((self.met(one), self.met(other)), (["b", "c", "d"], ["d", "e"]))

    def test_each_two_kinds_with_each_sign(self):
        parts = [("name", "b"), ("value", 2, 4), ("has", [("child", None)]), ("not", ("name", "b")),
                 ("and", ("value", 2, None), ("value", None, 3)), ("or", ("name", "a"), ("name", "c"))]
        slow = Slow(ROWS)
        for one in parts:
            self.assertEqual(self.met(~built(one)), [name for name in "abcde" if not slow.meets(one, name)])
            for other in parts:
                for kind in ("and", "or"):
                    test = built((kind, one, other))
                    self.assertIsInstance(test, Test)
                    self.assertEqual(self.met(test), [name for name in "abcde"
                                                      if slow.meets((kind, one, other), name)])

    def test_drawn_tests(self):
        rng = random.Random(1)
        shapes = [rows_of(levels) for count in range(1, 6) for levels in all_levels(count)]
        for _ in range(300):
            rows = rng.choice(shapes)
            slow = Slow(rows)
            told = some_test(rng, slow.names, 3)
            self.assertEqual(self.met(built(told), rows), [name for name in slow.names if slow.meets(told, name)])

    def test_all_are_tests(self):
        for test in (NameIs("a"), ValueIn(None, None), Has(Route([])), NameIs("a") & NameIs("b"),
                     NameIs("a") | NameIs("b"), ~NameIs("a")):
            self.assertIsInstance(test, Test)
        for kind in (NameIs, ValueIn, Has):
            self.assertTrue(issubclass(kind, Test))

    def test_no_node(self):
        parts = [NameIs("a"), ValueIn(None, None), Has(Route([])), NameIs("x") & NameIs("x"), NameIs("x") | NameIs("a"),
                 ~NameIs("x"), NameIs("x")]
        for thing in [*things(ROWS), *things([])]:
            for test in parts:
                for name in NO_NODES:
                    with self.assertRaises(NoNode) as caught:
                        test(thing, name)
                    self.assertIs(caught.exception.name, name)
        self.assertIs(NameIs("a")(name="a", table=FOREST), True)

    def test_errors(self):
        for thing in NO_NAMES:
            with self.assertRaises(NoName) as caught:
                NameIs(thing)
            self.assertIs(caught.exception.name, thing)
        for thing in NO_VALUES:
            for other in (None, 1, thing, "1"):
                with self.assertRaises(NoValue) as caught:
                    ValueIn(thing, other)
                self.assertIs(caught.exception.value, thing)
            for low in (None, 0, GREAT):
                with self.assertRaises(NoValue) as caught:
                    ValueIn(low, thing)
                self.assertIs(caught.exception.value, thing)
        for thing in NO_ROUTES:
            with self.assertRaises(NoRoute) as caught:
                Has(thing)
            self.assertEqual((caught.exception.place, caught.exception.why), (-1, "route"))


class Sizes(unittest.TestCase):
    def too_large(self, size, make):
        with self.assertRaises(TooLarge) as caught:
            make()
        self.assertEqual(caught.exception.size, size)

    def test_of_not(self):
        largest = sized(60)
        self.assertIs(largest(FOREST, "a"), False)
        self.assertIs(largest(FOREST, "b"), True)
        self.too_large(61, lambda: ~largest)
        self.too_large(61, lambda: ~sized(60, ValueIn(1, 2)))

    def test_of_and_and_or(self):
        for one in range(1, 61):
            for other in (1, 2, 29, 30, 58, 59 - one, 60 - one, 60):
                for make in (lambda: sized(one) & sized(other), lambda: sized(one) | sized(other)):
                    if 1 <= other and one + other < 60:
                        # Just as many signs more can be put before it as lead to 60.
                        self.assertIsInstance(sized(60 - one - other, make()), Test)
                        self.too_large(61, lambda: sized(61 - one - other, make()))
                    elif 1 <= other:
                        self.too_large(one + other + 1, make)

    def test_of_has(self):
        empty = Route([("child", None)] * 20)
        self.assertIsInstance(sized(60, Has(empty)), Test)
        self.too_large(61, lambda: ~sized(60, Has(empty)))
        for sizes in ([59], [30, 29], [1] * 19 + [40], [20, 20, 19]):
            route = Route([("self", sized(size)) for size in sizes])
            self.too_large(61, lambda: ~Has(route))
            more = Route([("self", sized(sizes[0] + 1)), *route.steps[1:]])
            self.assertEqual(len(more), len(sizes))
            self.too_large(61, lambda: Has(more))
        self.too_large(1201, lambda: Has(Route([("self", sized(60))] * 20)))

    def test_errors_change_nothing(self):
        one = sized(60)
        self.too_large(62, lambda: one & NameIs("a"))
        self.assertIs(one(FOREST, "b"), True)

    def test_deep_tests(self):
        # Without looking at each part once for all nodes, these would never end.
        one = other = ValueIn(None, None)
        for _ in range(59):
            one = Has(Route([("descendant", one), *[("ancestor", None), ("descendant", None)] * 9, ("self", None)]))
        for _ in range(29):
            other = Has(Route([("following", None), ("preceding", ~other)]))
        for rows in (rows_of(range(60)), rows_of([0] * 60), rows_of(large_levels()["zigzag"])):
            for thing in things(rows):
                for test in (one, other):
                    self.assertIs(test(thing, "n30"), test(Forest(rows), "n30"))
                    self.assertEqual(ask(thing, Route([("self", test)] * 20), "n30"),
                                     ["n30"] if test(thing, "n30") else [])

    def test_deep_tests_against_the_slow_way(self):
        rows = rows_of([0, 1, 2, 1, 0])
        slow = Slow(rows)
        rng = random.Random(2)
        for _ in range(30):
            told = ("value", rng.randrange(-8, 8), None)
            for _ in range(5):
                told = ("not", ("has", [(rng.choice(AXES), told), (rng.choice(AXES), None)]))
            for thing in things(rows):
                test = built(told)
                self.assertEqual([test(thing, name) for name in slow.names],
                                 [slow.meets(told, name) for name in slow.names])


class Routes(unittest.TestCase):
    def test_fields(self):
        test = NameIs("a")
        for steps in ([["child", None], ("self", test)], (("child", None), ["self", test])):
            route = Route(steps)
            self.assertEqual((len(route), len(route.steps), type(route.steps)), (2, 2, tuple))
            self.assertTrue(all(type(step) is tuple for step in route.steps))
            self.assertEqual(route.steps, (("child", None), ("self", test)))
            self.assertIs(route.steps[1][1], test)
        self.assertEqual(Route(steps=[]).steps, ())
        self.assertIn("steps", vars(Route(())))
        for count in (0, 1, 19, 20):
            self.assertEqual(len(Route([("next", None)] * count)), count)

    def test_later_changes_have_no_effect(self):
        steps = [["child", None], ["self", NameIs("b")]]
        route = Route(steps)
        steps[0][0] = "parent"
        steps.pop()
        self.assertEqual((len(route), route.steps[0]), (2, ("child", None)))
        self.assertEqual(ask(FOREST, route, "a"), ["b"])

    def no_route(self, steps, place, why):
        with self.assertRaises(NoRoute) as caught:
            Route(steps)
        self.assertEqual((caught.exception.place, caught.exception.why), (place, why))

    def test_no_steps(self):
        for thing in (None, True, 0, "", "ab", b"ab", {}, {0: 1}, range(2), Route([]), NameIs("a"), FOREST,
                      [("self", None)] * 21, (("self", None),) * 21, [None] * 21):
            self.no_route(thing, -1, "steps")
        self.no_route([None] * 20, 0, "step")

    def test_each_word_at_each_place(self):
        wrong = [(thing, "step") for thing in (None, True, 1, "ab", b"ab", {}, {0: 1, 1: 2}, [], ("self",),
                                               ("self", None, None), ["self"], range(2), NameIs("a"), Route([]))]
        wrong += [((thing, test), "axis") for thing in (None, True, 0, "", "Self", "up", "childs", b"self", ["self"],
                                                        ("self",), {}, NameIs("a"))
                  for test in (None, NameIs("a"), 7)]
        wrong += [(("self", thing), "test") for thing in (True, False, 0, "", "a", b"", [], (), {}, Route([]), FOREST,
                                                          NameIs, Test, Cut("a"))]
        for step, why in wrong:
            for count in (0, 1, 19):
                for behind in ([], [None], [("self", 7)]):
                    steps = [("child", None)] * count + [step] + behind
                    if len(steps) <= 20:
                        self.no_route(steps, count, why)
                        self.no_route(tuple(steps), count, why)


class Ask(unittest.TestCase):
    def test_example(self):
        for thing in things(ROWS):
            route = Route([("descendant", ValueIn(3, None)), ("parent", None)])
            self.assertEqual(ask(thing, route, "a"), ["a", "b"])
            self.assertEqual(ask(name="a", table=thing, route=route), ["a", "b"])

    def test_without_steps(self):
        for thing in things(ROWS):
            for name in "abcde":
                self.assertEqual(ask(thing, Route([]), name), [name])

    def test_drawn_routes(self):
        rng = random.Random(3)
        shapes = [rows_of(levels) for count in range(1, 7) for levels in all_levels(count)]
        for _ in range(400):
            rows = rng.choice(shapes)
            slow = Slow(rows)
            steps = some_steps(rng, slow.names, 2, 5)
            for thing in things(rows):
                for name in slow.names:
                    self.assertEqual(ask(thing, route_of(steps), name), slow.led(steps, name), (rows, steps))

    def test_drawn_routes_in_large_forests(self):
        rng = random.Random(4)
        for levels in large_levels().values():
            rows = rows_of(levels)
            slow = Slow(rows)
            for _ in range(6):
                steps = some_steps(rng, slow.names, 1, 20)
                name = rng.choice(slow.names)
                for thing in things(rows):
                    self.assertEqual(ask(thing, route_of(steps), name), slow.led(steps, name))

    def test_long_routes(self):
        chain = rows_of(range(60))
        for thing in things(chain):
            self.assertEqual(ask(thing, Route([("parent", None)] * 20), "n59"), ["n39"])
            self.assertEqual(ask(thing, Route([("child", None)] * 19), "n0"), ["n19"])
            self.assertEqual(ask(thing, Route([("parent", None)] * 20), "n19"), [])

    def test_errors(self):
        for thing in [*things(ROWS), *things([])]:
            for route in NO_ROUTES:
                for name in ("a", "x", None):
                    with self.assertRaises(NoRoute) as caught:
                        ask(thing, route, name)
                    self.assertEqual((caught.exception.place, caught.exception.why), (-1, "route"))
            for name in NO_NODES:
                for route in (Route([]), Route([("child", None)])):
                    with self.assertRaises(NoNode) as caught:
                        ask(thing, route, name)
                    self.assertIs(caught.exception.name, name)

    def test_each_list_is_new_and_nothing_is_changed(self):
        for thing in things(ROWS):
            rows, route = thing.rows, Route([("child", ~NameIs("d"))])
            steps = route.steps
            found = ask(thing, route, "a")
            self.assertIs(type(found), list)
            found.append("x")
            self.assertEqual((ask(thing, route, "a"), thing.rows, route.steps), (["b"], rows, steps))

    def test_behind_each_deed_of_a_history(self):
        rng = random.Random(5)
        for seed, levels in enumerate([[], large_levels()["zigzag"]]):
            rows = rows_of(levels)
            all_things = things(rows)
            for _, deed, behind in history(80 + seed, 60, rows):
                for thing in all_things[1:]:
                    thing.apply(deed)
                all_things[0] = Forest(behind)
                if not behind:
                    continue
                slow = Slow(behind)
                for _ in range(2):
                    steps, name = some_steps(rng, slow.names, 1, 4), rng.choice(slow.names)
                    found = [ask(thing, route_of(steps), name) for thing in all_things]
                    self.assertEqual(found, [slow.led(steps, name)] * 4)


class Turned(unittest.TestCase):
    def check(self, rows, route):
        back = turned(route)
        self.assertIsInstance(back, Route)
        self.assertEqual(len(back), len(route) + 1)
        names = [row[0] for row in rows]
        for thing in things(rows):
            there = {(one, other) for one in names for other in ask(thing, route, one)}
            again = {(other, one) for one in names for other in ask(thing, back, one)}
            self.assertEqual(there, again)

    def test_each_axis(self):
        for rows in [rows_of(levels) for count in range(6) for levels in all_levels(count)]:
            for axis in AXES:
                self.check(rows, Route([(axis, None)]))

    def test_drawn_routes(self):
        rng = random.Random(6)
        shapes = [rows_of(levels) for count in range(1, 6) for levels in all_levels(count)]
        for _ in range(250):
            rows = rng.choice(shapes)
            self.check(rows, route_of(some_steps(rng, [row[0] for row in rows], 2, 5)))

    def test_edges(self):
        for count in (0, 1, 18, 19):
            self.check(ROWS, Route([("descendant", ValueIn(2, None))] * min(count, 1) + [("next", None)] * (count - 1)))
        for test in (None, NameIs("b"), ValueIn(2, 4)):
            self.check(ROWS, Route([("self", test)]))
            self.check(ROWS, Route([("self", test)] * 19))
        self.check([], Route([]))

    def test_errors(self):
        for thing in NO_ROUTES:
            with self.assertRaises(NoRoute) as caught:
                turned(thing)
            self.assertEqual((caught.exception.place, caught.exception.why), (-1, "route"))
        with self.assertRaises(NoRoute) as caught:
            turned(route=Route([("self", None)] * 20))
        self.assertEqual((caught.exception.place, caught.exception.why), (-1, "many"))

    def test_the_route_stays_as_it_was(self):
        route = Route([("child", NameIs("b")), ("next", None)])
        steps = route.steps
        turned(route)
        self.assertEqual(route.steps, steps)


if __name__ == "__main__":
    unittest.main()
