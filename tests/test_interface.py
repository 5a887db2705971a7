"""The names, the arguments and the examples of the interface, for the modules that there are."""

import inspect
import unittest

from forestrows import deeds, errors, forests
from forestrows.errors import NoForest
from forestrows.forests import Forest

FOREST_METHODS = {
    "names": (), "roots": (), "parent_of": ("name",), "children_of": ("name",), "rank_of": ("name",),
    "ancestors_of": ("name",), "descendants_of": ("name",), "level_of": ("name",), "size_of": ("name",),
    "is_above": ("one", "other"), "meet_of": ("one", "other"), "value_of": ("name",), "total_of": ("name",),
    "place_of": ("name",), "name_at": ("place",), "leaves": (), "height": (),
}
SIGNS = ("__init__", "__len__", "__contains__", "__iter__", "__add__", "__eq__")


class Interface(unittest.TestCase):
    def test_the_forest_takes_rows(self):
        self.assertEqual(list(inspect.signature(Forest).parameters), ["rows"])

    def test_methods_stand_in_the_class_itself(self):
        for name, parameters in FOREST_METHODS.items():
            method = vars(Forest)[name]
            self.assertEqual(tuple(inspect.signature(method).parameters), ("self", *parameters))
            kinds = {one.kind for one in inspect.signature(method).parameters.values()}
            self.assertEqual(kinds, {inspect.Parameter.POSITIONAL_OR_KEYWORD})
        for name in SIGNS:
            self.assertIn(name, vars(Forest))

    def test_class_values(self):
        self.assertEqual(vars(Forest)["MOST"], 60)

    def test_classes_are_defined_in_their_files(self):
        self.assertEqual(Forest.__module__, "forestrows.forests")
        for module in (deeds, errors):
            for name, thing in vars(module).items():
                if isinstance(thing, type):
                    self.assertEqual(thing.__module__, module.__name__, name)

    def test_no_class_derives_from_another_one(self):
        for one in (Forest, *[thing for thing in vars(deeds).values() if isinstance(thing, type)]):
            self.assertEqual(one.__bases__, (object,))


class Examples(unittest.TestCase):
    def test_questions(self):
        forest = Forest([('a', 1, 0), ('b', 2, 1), ('c', 3, 2), ('d', 4, 1), ('e', 5, 0)])
        told = (forest.children_of('a'), forest.total_of('a'), forest.meet_of('c', 'd'), forest.rank_of('e'))
        self.assertEqual(told, (['b', 'd'], 10, 'a', 1))

    def test_no_forest(self):
        with self.assertRaises(NoForest) as caught:
            Forest([('a', 1, 0), ('b', 2, 2)])
        self.assertEqual((caught.exception.place, caught.exception.why), (1, 'level'))


if __name__ == "__main__":
    unittest.main()
