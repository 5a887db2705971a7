"""Every place of the interface takes its arguments by their names, in any order ([2])."""

import unittest

from forestrows import deeds, errors
from forestrows.books import Book
from forestrows.deeds import Cut, Put
from forestrows.desk import Desk
from forestrows.doing import done, played, undoing
from forestrows.forests import Forest
from forestrows.gaps import lasting, placed
from forestrows.judging import Fault, judge_keys, judge_pairs, judge_spans, walk_spans
from forestrows.keeping import check_spans, span_certificate
from forestrows.keys import KeyTable
from forestrows.labels import bytes_of, labels_between, numbers_of, split_key
from forestrows.matching import check_keys, key_certificate
from forestrows.mending import Nested, check_nested, largest_keys, largest_nested
from forestrows.pairs import PairTable
from forestrows.routes import Has, NameIs, Route, ValueIn, ask, turned
from forestrows.spans import Span, SpanTable
from forestrows.tables import Certificate, Change
from forestrows.texts import deed_text, forest_text, read_deed, read_forest

FOREST = Forest([("a", 1, 0), ("b", 2, 1), ("c", 3, 0)])
SPANS, KEYS, PAIRS = SpanTable.laid(FOREST, most=60), KeyTable.laid(FOREST), PairTable.laid(FOREST)
PAIR_OF_NUMBERS = [(0, 2), (1, 3)]
ERRORS = {
    "NoName": ("name",), "NoValue": ("value",), "NoForest": ("place", "why"), "Twice": ("name",), "NoNode": ("name",),
    "NoPlace": ("place",), "NoDeed": ("why",), "NoDeeds": ("place", "why"), "NoBound": ("most",), "Full": ("needed",),
    "NoTable": ("place", "why"), "NoCount": ("free",), "NoKey": ("place",), "NoLabel": ("word",),
    "NoRoute": ("place", "why"), "TooLarge": ("size",), "NoSpans": ("place",), "NoBack": (), "NoMark": ("name",),
    "BadText": ("place",),
}
DEEDS = {
    "Put": ("name", "value", "parent", "rank"), "Move": ("name", "parent", "rank"), "Cut": ("name",),
    "Lift": ("name",), "Wrap": ("name", "value", "parent", "first", "last"), "Reverse": ("parent",),
    "SetValue": ("name", "value"),
}
# Calls that return something that can be compared, with their arguments in the order of the interface.
CALLS = [
    (Forest, {"rows": FOREST.rows}), (done, {"forest": FOREST, "deed": Cut("a")}),
    (played, {"forest": FOREST, "deeds": [Cut("a"), Cut("c")]}), (undoing, {"forest": FOREST, "deed": Cut("a")}),
    (Change, {"added": [1], "gone": [2], "changed": [3]}),
    (Certificate, {"kept": [1], "worths": {2: 2}, "heights": {3: 3}}),
    (span_certificate, {"table": SPANS, "forest": FOREST}),
    (check_spans, {"table": SPANS, "forest": FOREST, "thing": span_certificate(SPANS, FOREST)}),
    (split_key, {"key": b"\x02\x03\x04"}), (bytes_of, {"numbers": [1, 2]}), (numbers_of, {"data": b"ab"}),
    (labels_between, {"low": b"\x02", "high": b"\x04", "count": 3}), (Fault, {"place": 1, "word": "row"}),
    (judge_spans, {"rows": [None], "most": 4}), (judge_keys, {"rows": [None]}), (judge_pairs, {"rows": [None]}),
    (lambda **given: list(walk_spans(**given)), {"rows": SPANS.rows}), (Span, {"left": 1, "right": 2}),
    (lambda **given: SpanTable(**given).rows, {"rows": SPANS.rows, "most": 56}),
    (lambda **given: SpanTable.laid(**given).rows, {"forest": FOREST, "most": 56}),
    (lambda **given: KeyTable(**given).rows, {"rows": KEYS.rows}),
    (lambda **given: KeyTable.laid(**given).rows, {"forest": FOREST}),
    (lambda **given: PairTable(**given).rows, {"rows": PAIRS.rows}),
    (lambda **given: PairTable.laid(**given).rows, {"forest": FOREST}),
    (lasting, {"free": 80}), (placed, {"free": 80}), (key_certificate, {"table": KEYS, "forest": FOREST}),
    (check_keys, {"table": KEYS, "forest": FOREST, "thing": key_certificate(KEYS, FOREST)}),
    (lambda **given: NameIs(**given)(FOREST, "b"), {"name": "b"}),
    (lambda **given: ValueIn(**given)(FOREST, "b"), {"low": 1, "high": 2}),
    (lambda **given: Has(**given)(FOREST, "b"), {"route": Route([("parent", None)])}),
    (NameIs("b"), {"table": KEYS, "name": "b"}), (ValueIn(1, 2), {"table": PAIRS, "name": "b"}),
    (NameIs("b") & ~NameIs("a") | NameIs("c"), {"table": SPANS, "name": "b"}),
    (lambda **given: Route(**given).steps, {"steps": [("self", None)]}),
    (ask, {"table": PAIRS, "route": Route([("child", None)]), "name": "a"}),
    (lambda **given: ask(FOREST, turned(**given), "b"), {"route": Route([("child", None)])}),
    (Nested, {"kept": [1], "bounds": {2: 2}}), (largest_nested, {"spans": PAIR_OF_NUMBERS}),
    (check_nested, {"spans": PAIR_OF_NUMBERS, "thing": largest_nested(PAIR_OF_NUMBERS)}),
    (largest_keys, {"rows": KEYS.rows}), (lambda **given: Book(**given).span_rows(), {"forest": FOREST, "most": 56}),
    (lambda **given: Book(FOREST, most=60).do(**given), {"deed": Cut("a")}),
    (lambda **given: Book(FOREST, most=60).do_all(**given), {"deeds": [Cut("a")]}),
    (lambda **given: Book(FOREST, most=60).mark(**given), {"name": "m"}),
    (lambda **given: Book(FOREST, most=60).set_bound(**given), {"bound": 70}),
    (forest_text, {"forest": FOREST}), (read_forest, {"text": "a=1"}), (deed_text, {"deed": Cut("a")}),
    (read_deed, {"text": "cut a"}), (lambda **given: Desk(**given).tell("spans"), {"forest": FOREST, "most": 56}),
    (lambda **given: Desk(FOREST, most=60).tell(**given), {"row": "forest"}),
]


class ByName(unittest.TestCase):
    def test_in_the_order_and_against_it(self):
        for call, given in CALLS:
            turned_round = dict(reversed(list(given.items())))
            self.assertEqual(call(**turned_round), call(**given), given)

    def test_by_place(self):
        for call, given in CALLS:
            if getattr(call, "__name__", "") != "<lambda>":
                self.assertEqual(call(*given.values()), call(**given), given)

    def test_errors_and_deeds(self):
        for module, kinds in ((errors, ERRORS), (deeds, DEEDS)):
            for kind, names in kinds.items():
                make = getattr(module, kind)
                given = {name: [name] for name in names}
                for thing in (make(*given.values()), make(**given), make(**dict(reversed(list(given.items()))))):
                    for name in names:
                        self.assertIs(getattr(thing, name), given[name])

    def test_methods_of_tables(self):
        for make in (lambda: SpanTable.laid(FOREST, most=60), lambda: KeyTable.laid(FOREST),
                     lambda: PairTable.laid(FOREST)):
            self.assertEqual(make().become(forest=Forest([])), make().become(Forest([])))
            self.assertEqual(make().apply(deed=Put("x", 1, "a", 0)), make().apply(Put("x", 1, "a", 0)))
        self.assertEqual(KEYS.key_of(name="b"), KEYS.key_of("b"))
        self.assertEqual(SPANS.span_of(name="b"), SPANS.span_of("b"))
        table = SpanTable.laid(FOREST, most=60)
        self.assertIsNone(table.set_bound(bound=50))
        self.assertEqual(table.limit, 50)

    def test_marks(self):
        book = Book(FOREST, most=60)
        book.mark(name="m")
        book.do(Cut("a"))
        self.assertEqual(book.back_to(name="m"), 1)


class Equality(unittest.TestCase):
    """Objects of classes with listed fields are equal to those of the same class with equal fields alone."""

    def test_all_classes_against_one_another(self):
        fields = [[1, 2], {3: 4}, {3: 4}]
        makers = [lambda: Forest([]), lambda: Change(*fields), lambda: Certificate(*fields),
                  lambda: Nested(*fields[:2]), lambda: Fault(1, 2), lambda: Span(1, 2), *[
                      lambda kind=kind, names=names: getattr(deeds, kind)(*range(len(names)))
                      for kind, names in DEEDS.items()]]
        for at, one in enumerate(makers):
            for place, other in enumerate(makers):
                self.assertIs(one() == other(), at == place)
                self.assertIs(one() != other(), at != place)
            for thing in (None, 0, 1, "", (), [], {}, (1, 2), ([1, 2], {3: 4}), KEYS, PAIRS, SPANS, Cut, NameIs("a")):
                self.assertIs(one() == thing, False)
                self.assertIs(one() != thing, True)


if __name__ == "__main__":
    unittest.main()
