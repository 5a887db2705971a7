"""The questions of a forest, NoNode and NoPlace ([2], [4])."""

import unittest

from forestrows.deeds import Cut
from forestrows.errors import NoNode, NoPlace
from forestrows.forests import Forest
from shapes import all_rows, grown, rows_of

GREAT = 10 ** 30
ROWS = [("a", 1, 0), ("b", 2, 1), ("c", 3, 2), ("d", 4, 1), ("e", 5, 0)]
OF_ONE = ("parent_of", "children_of", "rank_of", "ancestors_of", "descendants_of", "level_of", "size_of",
          "value_of", "total_of", "place_of")
OF_TWO = ("is_above", "meet_of")
NO_NODES = [None, True, False, 0, 1, "", "x", "A", "aa", "abcdefghi", b"a", ["a"], ("a",), {}, {"a": 1},
            Cut("a"), Forest([]), range(1)]


def expected(tree, roots):
    """The answers of OF_ONE for a tree, but for its place."""
    siblings = tree.parent.children if tree.parent else roots
    return {
        "parent_of": tree.parent.name if tree.parent else None,
        "children_of": [child.name for child in tree.children],
        "rank_of": siblings.index(tree),
        "ancestors_of": [one.name for one in tree.above()],
        "descendants_of": [one.name for one in tree.walk()[1:]],
        "level_of": len(tree.above()),
        "size_of": len(tree.walk()),
        "value_of": tree.value,
        "total_of": sum(one.value for one in tree.walk()),
    }


def lowest_with_both(holding, one, other):
    """The name of the lowest node that holds both, or None; the nodes stand in preorder."""
    having = [name for name, held in holding.items() if one in held and other in held]
    return having[-1] if having else None


class Answers(unittest.TestCase):
    def test_of_one_node(self):
        for rows in all_rows():
            forest = Forest(rows)
            roots = grown(rows)
            walk = [tree for root in roots for tree in root.walk()]
            for place, tree in enumerate(walk):
                for question, answer in expected(tree, roots).items():
                    self.assertEqual(getattr(forest, question)(tree.name), answer, (rows, question, tree.name))
                self.assertEqual(forest.place_of(tree.name), place)
                self.assertEqual(forest.name_at(place), tree.name)

    def test_of_the_whole_forest(self):
        for rows in all_rows():
            forest = Forest(rows)
            roots = grown(rows)
            walk = [tree for root in roots for tree in root.walk()]
            self.assertEqual(forest.names(), [tree.name for tree in walk])
            self.assertEqual(forest.roots(), [tree.name for tree in roots])
            self.assertEqual(forest.leaves(), [tree.name for tree in walk if not tree.children])
            self.assertEqual(forest.height(), max([len(tree.above()) + 1 for tree in walk], default=0))

    def test_of_two_nodes(self):
        for rows in all_rows():
            forest = Forest(rows)
            walk = [tree for root in grown(rows) for tree in root.walk()]
            holding = {tree.name: {below.name for below in tree.walk()} for tree in walk}
            for one in holding:
                for other in holding:
                    above = one != other and other in holding[one]
                    self.assertIs(forest.is_above(one, other), above)
                    self.assertEqual(forest.meet_of(one, other), lowest_with_both(holding, one, other))

    def test_without_nodes(self):
        forest = Forest([])
        self.assertEqual((forest.names(), forest.roots(), forest.leaves(), forest.height()), ([], [], [], 0))

    def test_of_a_chain_of_sixty(self):
        forest = Forest(rows_of(range(60)))
        self.assertEqual((forest.height(), forest.leaves(), forest.roots()), (60, ["n59"], ["n0"]))
        self.assertEqual(forest.ancestors_of("n59"), [f"n{place}" for place in range(59)])
        self.assertEqual(forest.descendants_of("n0"), [f"n{place}" for place in range(1, 60)])
        self.assertEqual((forest.meet_of("n59", "n30"), forest.meet_of("n0", "n0")), ("n30", "n0"))

    def test_of_sixty_roots(self):
        forest = Forest(rows_of([0] * 60))
        self.assertEqual((forest.height(), forest.rank_of("n59"), forest.meet_of("n0", "n1")), (1, 59, None))
        self.assertEqual(forest.leaves(), forest.roots())

    def test_totals_beyond_the_bounds_of_values(self):
        rows = [("a", GREAT, 0), ("b", GREAT, 1), ("c", GREAT, 2), ("d", -GREAT, 0), ("e", -GREAT, 1)]
        forest = Forest(rows)
        self.assertEqual([forest.total_of(name) for name in "abcde"],
                         [3 * GREAT, 2 * GREAT, GREAT, -2 * GREAT, -GREAT])
        self.assertEqual((forest.value_of("a"), forest.value_of("e")), (GREAT, -GREAT))

    def test_flags(self):
        forest = Forest(ROWS)
        for one, other, answer in (("a", "b", True), ("a", "c", True), ("b", "a", False), ("a", "a", False),
                                   ("b", "d", False), ("a", "e", False), ("e", "a", False)):
            self.assertIs(forest.is_above(one, other), answer)

    def test_meet(self):
        forest = Forest(ROWS)
        for one, other, answer in (("c", "d", "a"), ("b", "c", "b"), ("c", "b", "b"), ("c", "c", "c"),
                                   ("a", "e", None), ("e", "c", None)):
            self.assertEqual(forest.meet_of(one, other), answer)

    def test_by_keyword(self):
        forest = Forest(ROWS)
        for question in OF_ONE:
            ask = getattr(forest, question)
            self.assertEqual(ask(name="b"), ask("b"))
        for question in OF_TWO:
            ask = getattr(forest, question)
            self.assertEqual(ask(other="c", one="a"), ask("a", "c"))
        self.assertEqual(forest.name_at(place=2), "c")


class NewLists(unittest.TestCase):
    def test_a_change_of_an_answer_has_no_effect(self):
        forest = Forest(ROWS)
        asked = [(forest.names, ()), (forest.roots, ()), (forest.leaves, ()), (forest.children_of, ("a",)),
                 (forest.ancestors_of, ("c",)), (forest.descendants_of, ("a",)), (forest.children_of, ("c",))]
        for ask, given in asked:
            before = ask(*given)
            self.assertIs(type(before), list)
            kept = list(before)
            before.append("x")
            before[0] = "y"
            self.assertEqual(ask(*given), kept)
        self.assertEqual(forest, Forest(ROWS))
        self.assertEqual(list(forest), ["a", "b", "c", "d", "e"])
        self.assertEqual(len(forest), 5)


class WrongNames(unittest.TestCase):
    def check(self, wrong, ask, *given):
        """NoNode with this very thing."""
        with self.assertRaises(NoNode) as caught:
            ask(*given)
        self.assertIs(caught.exception.name, wrong)

    def test_of_one(self):
        for forest in (Forest(ROWS), Forest([])):
            for question in OF_ONE:
                for thing in NO_NODES:
                    self.check(thing, getattr(forest, question), thing)

    def test_of_two(self):
        forest = Forest(ROWS)
        for question in OF_TWO:
            ask = getattr(forest, question)
            for thing in NO_NODES:
                self.check(thing, ask, thing, "a")
                self.check(thing, ask, "a", thing)
                self.check(thing, ask, thing, "y")
                self.check(thing, ask, thing, ["z"])

    def test_of_a_forest_without_nodes(self):
        for question in OF_TWO:
            self.check("a", getattr(Forest([]), question), "a", "b")


class WrongPlaces(unittest.TestCase):
    def test_no_place(self):
        for rows in ([], ROWS, rows_of([0] * 60)):
            forest = Forest(rows)
            for thing in (-1, len(rows), len(rows) + 1, 10 ** 40, -10 ** 40, None, True, False, "0", "a", b"0",
                          [0], (), {}, forest):
                with self.assertRaises(NoPlace) as caught:
                    forest.name_at(thing)
                self.assertIs(caught.exception.place, thing)

    def test_first_and_last(self):
        forest = Forest(rows_of([0] * 60))
        self.assertEqual((forest.name_at(0), forest.name_at(59)), ("n0", "n59"))


if __name__ == "__main__":
    unittest.main()
