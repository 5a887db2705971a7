"""The names, the arguments and the examples of the interface."""

import importlib
import inspect
import unittest

from forestrows import deeds, errors
from forestrows.books import Book
from forestrows.deeds import Move, Put, Wrap
from forestrows.desk import Desk
from forestrows.doing import done
from forestrows.errors import BadText, NoDeed, NoForest
from forestrows.forests import Forest
from forestrows.gaps import lasting
from forestrows.judging import judge_pairs
from forestrows.keys import KeyTable
from forestrows.labels import labels_between, split_key
from forestrows.mending import largest_nested
from forestrows.pairs import PairTable
from forestrows.routes import Route, Test, ValueIn, ask
from forestrows.spans import SpanTable
from forestrows.texts import read_forest

QUESTIONS = {
    "names": (), "roots": (), "parent_of": ("name",), "children_of": ("name",), "rank_of": ("name",),
    "ancestors_of": ("name",), "descendants_of": ("name",), "level_of": ("name",), "size_of": ("name",),
    "is_above": ("one", "other"), "meet_of": ("one", "other"), "value_of": ("name",), "total_of": ("name",),
    "place_of": ("name",), "name_at": ("place",), "leaves": (), "height": (),
}
FUNCTIONS = {
    "doing": {"done": ("forest", "deed"), "played": ("forest", "deeds"), "undoing": ("forest", "deed")},
    "keeping": {"span_certificate": ("table", "forest"), "check_spans": ("table", "forest", "thing")},
    "labels": {"split_key": ("key",), "bytes_of": ("numbers",), "numbers_of": ("data",),
               "labels_between": ("low", "high", "count")},
    "judging": {"judge_spans": ("rows", "most"), "judge_keys": ("rows",), "judge_pairs": ("rows",),
                "walk_spans": ("rows",)},
    "gaps": {"lasting": ("free",), "placed": ("free",)},
    "matching": {"key_certificate": ("table", "forest"), "check_keys": ("table", "forest", "thing")},
    "routes": {"ask": ("table", "route", "name"), "turned": ("route",)},
    "mending": {"largest_nested": ("spans",), "check_nested": ("spans", "thing"), "largest_keys": ("rows",)},
    "texts": {"forest_text": ("forest",), "read_forest": ("text",), "deed_text": ("deed",), "read_deed": ("text",)},
}
CLASSES = {
    "forests": {"Forest": ("rows",)},
    "tables": {"Change": ("added", "gone", "changed"), "Certificate": ("kept", "worths", "heights")},
    "judging": {"Fault": ("place", "word")},
    "spans": {"Span": ("left", "right"), "SpanTable": ("rows", "most")},
    "keys": {"KeyTable": ("rows",)},
    "pairs": {"PairTable": ("rows",)},
    "routes": {"Test": (), "NameIs": ("name",), "ValueIn": ("low", "high"), "Has": ("route",), "Route": ("steps",)},
    "mending": {"Nested": ("kept", "bounds")},
    "books": {"Book": ("forest", "most")},
    "desk": {"Desk": ("forest", "most")},
}
OF_TABLES = {**QUESTIONS, "forest": (), "become": ("forest",), "apply": ("deed",)}
METHODS = {
    "Forest": QUESTIONS,
    "SpanTable": {**OF_TABLES, "set_bound": ("bound",), "span_of": ("name",)},
    "KeyTable": {**OF_TABLES, "key_of": ("name",)},
    "PairTable": OF_TABLES,
    "Book": {"forest": (), "span_rows": (), "key_rows": (), "pair_rows": (), "do": ("deed",), "do_all": ("deeds",),
             "undo": (), "redo": (), "many": (), "mark": ("name",), "back_to": ("name",), "set_bound": ("bound",)},
    "Desk": {"tell": ("row",)},
    **{kind: {"__call__": ("table", "name")} for kind in ("Test", "NameIs", "ValueIn", "Has")},
}
SIGNS = {
    "Forest": "init len contains iter add eq",
    "Change": "init eq",
    "Certificate": "init eq",
    "Fault": "init eq",
    "Span": "init eq contains lshift",
    "SpanTable": "init len contains iter getitem setitem",
    "KeyTable": "init len contains iter getitem setitem",
    "PairTable": "init len contains iter getitem setitem",
    "Test": "and or invert call",
    "NameIs": "init and or invert call",
    "ValueIn": "init and or invert call",
    "Has": "init and or invert call",
    "Route": "init len",
    "Nested": "init eq",
    "Book": "init",
    "Desk": "init",
}


def module(name):
    return importlib.import_module("forestrows." + name)


def classes():
    """All classes of CLASSES, each with its file's name and its parameters."""
    return [(getattr(module(place), name), place, given) for place, names in CLASSES.items()
            for name, given in names.items()]


class Interface(unittest.TestCase):
    def check(self, function, parameters, behind_star=()):
        """The parameters in their order, each by place or by keyword, or by keyword alone, without default values."""
        found = inspect.signature(function).parameters
        self.assertEqual(tuple(found), tuple(parameters), function)
        for name, one in found.items():
            alone = name in behind_star
            self.assertEqual(one.kind is inspect.Parameter.KEYWORD_ONLY, alone, function)
            self.assertEqual(one.kind is inspect.Parameter.POSITIONAL_OR_KEYWORD, not alone, function)
            self.assertIs(one.default, inspect.Parameter.empty)

    def test_functions_and_where_they_are_defined(self):
        for place, functions in FUNCTIONS.items():
            for name, parameters in functions.items():
                function = getattr(module(place), name)
                self.check(function, parameters)
                self.assertEqual(function.__module__, "forestrows." + place)

    def test_classes_and_where_they_are_defined(self):
        for one, place, parameters in classes():
            if "__init__" in vars(one):
                self.check(one, parameters, ("most",) if one in (Book, Desk) else ())
            self.assertEqual(one.__module__, "forestrows." + place)
        for place in (deeds, errors):
            for name, thing in vars(place).items():
                if isinstance(thing, type):
                    self.assertEqual(thing.__module__, place.__name__, name)

    def test_methods_stand_in_the_class_itself(self):
        for one, _, _ in classes():
            for name, parameters in METHODS.get(one.__name__, {}).items():
                self.check(vars(one)[name], ("self", *parameters))
            for sign in SIGNS[one.__name__].split():
                self.assertIn(f"__{sign}__", vars(one))

    def test_what_is_passed_by_keyword_alone(self):
        self.assertIsInstance(vars(SpanTable)["laid"], classmethod)
        self.check(SpanTable.laid, ("forest", "most"), ("most",))

    def test_class_methods(self):
        for kind in (KeyTable, PairTable):
            self.assertIsInstance(vars(kind)["laid"], classmethod)
            self.check(kind.laid, ("forest",))

    def test_properties(self):
        self.assertIsInstance(vars(SpanTable)["limit"], property)
        self.assertIsInstance(vars(Book)["limit"], property)

    def test_fields_are_set_when_an_object_is_created(self):
        self.assertIn("rows", vars(Forest([])))
        self.assertIn("rows", vars(SpanTable([], 1)))
        self.assertIn("rows", vars(KeyTable([])))
        self.assertIn("rows", vars(PairTable([])))
        self.assertIn("steps", vars(Route([])))

    def test_class_values(self):
        self.assertEqual(vars(Forest)["MOST"], 60)

    def test_no_class_but_the_tests_derives_from_another_one(self):
        for one in [*[one for one, _, _ in classes()], *[one for one in vars(deeds).values() if isinstance(one, type)]]:
            tests = one.__name__ in ("NameIs", "ValueIn", "Has")
            self.assertEqual(one.__bases__, (Test,) if tests else (object,))


class Examples(unittest.TestCase):
    def test_questions(self):
        forest = Forest([('a', 1, 0), ('b', 2, 1), ('c', 3, 2), ('d', 4, 1), ('e', 5, 0)])
        told = (forest.children_of('a'), forest.total_of('a'), forest.meet_of('c', 'd'), forest.rank_of('e'))
        self.assertEqual(told, (['b', 'd'], 10, 'a', 1))

    def test_no_forest(self):
        with self.assertRaises(NoForest) as caught:
            Forest([('a', 1, 0), ('b', 2, 2)])
        self.assertEqual((caught.exception.place, caught.exception.why), (1, 'level'))

    def test_done(self):
        forest = Forest([('a', 1, 0), ('b', 2, 1), ('c', 3, 2), ('d', 4, 1), ('e', 5, 0)])
        self.assertEqual(done(forest, Wrap('w', 9, 'a', 0, 2)).rows,
                         (('a', 1, 0), ('w', 9, 1), ('b', 2, 2), ('c', 3, 3), ('d', 4, 2), ('e', 5, 0)))

    def test_no_deed(self):
        with self.assertRaises(NoDeed) as caught:
            done(Forest([('a', 1, 0), ('b', 2, 1), ('c', 3, 2)]), Move('a', 'c', 0))
        self.assertEqual(caught.exception.why, 'below')

    def test_laid(self):
        self.assertEqual(SpanTable.laid(Forest([('a', 1, 0), ('b', 2, 1), ('c', 3, 0)]), most=60).rows,
                         (('a', 1, 5, 35), ('b', 2, 15, 25), ('c', 3, 45, 55)))

    def test_apply(self):
        table = SpanTable.laid(Forest([('a', 1, 0), ('b', 2, 1), ('c', 3, 0)]), most=8)
        change = table.apply(Put('d', 4, 'a', 1))
        self.assertEqual((change.added, change.gone, change.changed, table.rows),
                         (('d',), (), ('a', 'b'), (('a', 1, 0, 5), ('b', 2, 1, 2), ('d', 4, 3, 4), ('c', 3, 6, 7))))

    def test_lasting(self):
        self.assertEqual([lasting(free) for free in (0, 2, 8, 26)], [0, 1, 2, 3])

    def test_labels(self):
        self.assertEqual((split_key(b'\x02\x03\x04'), labels_between(b'\x02', b'\x04', 2)),
                         ([b'\x02', b'\x03\x04'], [b'\x03\x02', b'\x03\x04']))

    def test_keys(self):
        self.assertEqual(KeyTable.laid(Forest([('a', 1, 0), ('b', 2, 1), ('c', 3, 0)])).rows,
                         (('a', 1, b'\x02'), ('b', 2, b'\x02\x02'), ('c', 3, b'\x04')))

    def test_ask(self):
        forest = Forest([('a', 1, 0), ('b', 2, 1), ('c', 3, 2), ('d', 4, 1), ('e', 5, 0)])
        self.assertEqual(ask(forest, Route([('descendant', ValueIn(3, None)), ('parent', None)]), 'a'), ['a', 'b'])

    def test_judge_pairs(self):
        fault = judge_pairs([('a', 'b', 1, 0, 7), ('a', 'a', 0, 0, 5)])
        right = judge_pairs([('a', 'a', 0, 0, 5), ('a', 'b', 1, 0, 7), ('b', 'b', 0, 0, 7)])
        self.assertEqual((fault.place, fault.word, right), (0, 'self', None))

    def test_largest_nested(self):
        self.assertEqual(largest_nested([(0, 4), (2, 6), (3, 5)]).kept, (1, 2))

    def test_bad_text(self):
        with self.assertRaises(BadText) as caught:
            read_forest('a=1(b=02)')
        self.assertEqual(caught.exception.place, 7)

    def test_desk(self):
        desk = Desk(Forest([('a', 1, 0)]), most=8)
        self.assertEqual([desk.tell('put b 2 a 0'), desk.tell('forest'), desk.tell('cut c'), desk.tell('pairs')],
                         [['0 0 0'], ['a=1(b=2)'], ['refused nodeed'], ['3']])


if __name__ == "__main__":
    unittest.main()
