"""Change and Certificate: their fields, copies and equality ([2], [9], [10])."""

import unittest

from forestrows.deeds import Cut
from forestrows.forests import Forest
from forestrows.tables import Certificate, Change, change_between

ANYTHING = [None, True, -1, 10 ** 40, "", "No Name", b"a", [], [1, [2]], (), (1, (2,)), {}, {"a": []}, Forest([]),
            Forest, Cut("a"), len]


class Fields(unittest.TestCase):
    def test_sequences_are_stored_as_tuples(self):
        for make in (list, tuple):
            change = Change(make("ab"), make("c"), make("d"))
            self.assertEqual((change.added, change.gone, change.changed), (("a", "b"), ("c",), ("d",)))
            self.assertEqual(Certificate(make("ab"), {}, {}).kept, ("a", "b"))
        for field in ("added", "gone", "changed"):
            self.assertIs(type(getattr(Change([], [], []), field)), tuple)
        self.assertIs(type(Certificate([], {}, {}).kept), tuple)

    def test_dicts_are_copied(self):
        worths, heights = {"a": 1}, {(None, "a"): 1}
        proof = Certificate(["a"], worths, heights)
        self.assertEqual((proof.worths, proof.heights), (worths, heights))
        self.assertIs(type(proof.worths), dict)
        self.assertIsNot(proof.worths, worths)
        self.assertIsNot(proof.heights, heights)

    def test_by_keyword(self):
        self.assertEqual(Change(changed=["c"], gone=["b"], added=["a"]), Change(["a"], ["b"], ["c"]))
        self.assertEqual(Certificate(heights={2: 2}, worths={1: 1}, kept=["a"]), Certificate(["a"], {1: 1}, {2: 2}))

    def test_later_changes_have_no_effect(self):
        lists = [["a"], ["b"], ["c"]]
        change = Change(*lists)
        for one in lists:
            one.append("x")
        self.assertEqual((change.added, change.gone, change.changed), (("a",), ("b",), ("c",)))
        kept, worths, heights = ["a"], {"a": 1}, {(None, "a"): 1}
        proof = Certificate(kept, worths, heights)
        kept.clear()
        worths["a"] = 2
        heights.clear()
        self.assertEqual((proof.kept, proof.worths, proof.heights), (("a",), {"a": 1}, {(None, "a"): 1}))

    def test_later_changes_inside_have_no_effect(self):
        inner, deeper = ["a", "b"], {"a": [1]}
        change = Change([inner], (), ((inner,),))
        proof = Certificate([inner, deeper], {"a": inner}, {"b": deeper})
        inner.append("c")
        deeper["a"].append(2)
        self.assertEqual(len(change.added[0]), 2)
        self.assertEqual(len(change.changed[0][0]), 2)
        self.assertEqual((len(proof.kept[0]), len(proof.kept[1]["a"])), (2, 1))
        self.assertEqual((len(proof.worths["a"]), len(proof.heights["b"]["a"])), (2, 1))

    def test_what_was_handed_in_stays_as_it_was(self):
        kept, worths, heights = ["a", ["b"]], {"a": 1, "b": [2]}, {(None, "a"): 1}
        proof = Certificate(kept, worths, heights)
        proof.worths["a"] = 5
        proof.heights["b"] = 5
        self.assertEqual((kept, worths, heights), (["a", ["b"]], {"a": 1, "b": [2]}, {(None, "a"): 1}))

    def test_anything_may_be_inside(self):
        for thing in ANYTHING:
            change = Change([thing], (thing,), [thing, thing])
            self.assertEqual((change.added, change.gone, change.changed), ((thing,), (thing,), (thing, thing)))
            proof = Certificate((thing,), {1: thing}, {(None, "a"): thing})
            self.assertEqual((proof.kept, proof.worths, proof.heights),
                             ((thing,), {1: thing}, {(None, "a"): thing}))
        keys = {None: 1, True: 2, "a": 3, b"a": 4, (1, ("a",)): 5, frozenset([1]): 6, Forest: 7, len: 8}
        self.assertEqual(Certificate([], keys, keys).heights, keys)

    def test_sequences_and_dicts_may_stand_anywhere(self):
        proof = Certificate({"a": 1}, ["b"], ())
        self.assertEqual((proof.kept, proof.worths, proof.heights), ({"a": 1}, ("b",), ()))


class Equality(unittest.TestCase):
    def test_equal_fields(self):
        self.assertIs(Change(["a"], [], ()) == Change(("a",), (), []), True)
        self.assertIs(Change(["a"], [], ()) != Change(("a",), (), []), False)
        self.assertIs(Certificate(["a"], {"a": 1}, {}) == Certificate(("a",), {"a": True}, {}), True)
        self.assertIs(Certificate([], {"a": 1, "b": 2}, {}) == Certificate([], {"b": 2, "a": 1}, {}), True)

    def test_other_fields(self):
        for given in ((["b"], [], []), (["a"], ["b"], []), (["a"], [], ["b"]), (["a", "a"], [], [])):
            self.assertIs(Change(["a"], [], []) == Change(*given), False)
            self.assertIs(Change(["a"], [], []) != Change(*given), True)
        for given in (([], {}, {}), (["a"], {"a": 1}, {}), (["a"], {}, {"a": 1})):
            self.assertIs(Certificate(["a"], {}, {}) == Certificate(*given), False)
            self.assertIs(Certificate(["a"], {}, {}) != Certificate(*given), True)

    def test_anything_else(self):
        for one in (Change([], [], []), Certificate([], {}, {}), Change(["a"], (), ())):
            for thing in [*ANYTHING, ((), (), ()), ((), {}, {}), [(), (), ()]]:
                self.assertIs(one == thing, False)
                self.assertIs(thing == one, False)
                self.assertIs(one != thing, True)
        self.assertIs(Change([], {}, {}) == Certificate([], {}, {}), False)


class Between(unittest.TestCase):
    def test_added_gone_and_changed_ascend(self):
        before = {"d": 1, "c": 1, "b": 1, "a": 1, "z": 1, "y": 1}
        after = {"z": 2, "e": 1, "c": 1, "b2": 1, "b": 2, "d": 1}
        self.assertEqual(change_between(before, after), Change(("b2", "e"), ("a", "y"), ("b", "z")))
        self.assertEqual(change_between(before, before), Change((), (), ()))


if __name__ == "__main__":
    unittest.main()
