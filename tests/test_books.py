"""Books: a forest with its three tables and its history ([27])."""

import random
import unittest

from forestrows.books import Book
from forestrows.deeds import Cut, Lift, Move, Put, Reverse, SetValue, Wrap
from forestrows.doing import done
from forestrows.errors import Full, NoBack, NoBound, NoDeed, NoDeeds, NoMark, NoName
from forestrows.forests import Forest
from forestrows.judging import judge_keys, judge_pairs, judge_spans
from forestrows.keys import KeyTable
from forestrows.pairs import PairTable
from forestrows.spans import SpanTable
from forestrows.tables import Change
from playing import answers, history, some_deed
from shapes import large_levels, rows_of

GREAT = 10 ** 30
ROWS = [("a", 1, 0), ("b", 2, 1), ("c", 3, 0)]
NO_BOUNDS = [None, True, False, 0, -1, GREAT + 1, "9", b"9", [9], (9,), {}, Forest([])]
NO_NAMES = [None, True, False, 0, 1, "", "A", "1a", "abcdefghi", "a b", b"a", ["a"], ("a",), {}, Forest([])]
NO_DEEDS = [(None, "deed"), ("cut a", "deed"), (Put("A", None, "x", 9), "name"), (SetValue("x", None), "value"),
            (Cut("x"), "node"), (Put("a", 1, None, 9), "taken"), (Move("a", "b", 9), "below"),
            (Put("x", 1, None, 9), "rank"), (Wrap("x", 1, None, 1, 1), "rank")]


def shown(book):
    """All that a book shows."""
    return (book.forest().rows, book.span_rows(), book.key_rows(), book.pair_rows(), book.limit)


def tables_of(book):
    return [SpanTable(book.span_rows(), book.limit), KeyTable(book.key_rows()), PairTable(book.pair_rows())]


class Books(unittest.TestCase):
    def right(self, book):
        """The rows are right rows of the forest."""
        forest, spans, keys, pairs, limit = shown(book)
        self.assertIsNone(judge_spans(spans, limit))
        self.assertIsNone(judge_keys(keys))
        self.assertIsNone(judge_pairs(pairs))
        self.assertEqual([table.forest().rows for table in tables_of(book)], [forest] * 3)
        for rows in (spans, keys, pairs):
            self.assertIs(type(rows), tuple)
            self.assertEqual(list(rows), sorted(rows, key=lambda row: row[2] if rows is not pairs else row))


class Beginnings(Books):
    def test_laid(self):
        for levels in [[], [0], [0, 1, 0], *large_levels().values()]:
            forest = Forest(rows_of(levels))
            for most in (max(1, 2 * len(forest)), 2 * len(forest) + 7, GREAT):
                book = Book(forest, most=most)
                self.assertEqual(book.forest(), forest)
                self.assertEqual(book.span_rows(), SpanTable.laid(forest, most=most).rows)
                self.assertEqual(book.key_rows(), KeyTable.laid(forest).rows)
                self.assertEqual(book.pair_rows(), PairTable.laid(forest).rows)
                self.assertEqual((book.limit, book.many()), (most, 0))
                self.right(book)

    def test_errors(self):
        for most in NO_BOUNDS:
            for forest in (Forest([]), Forest(rows_of([0] * 60))):
                with self.assertRaises(NoBound) as caught:
                    Book(forest, most=most)
                self.assertIs(caught.exception.most, most)
        for count, most in ((1, 1), (3, 5), (60, 119), (60, 1)):
            with self.assertRaises(Full) as caught:
                Book(Forest(rows_of([0] * count)), most=most)
            self.assertEqual(caught.exception.needed, 2 * count)
        self.assertEqual(Book(most=1, forest=Forest([])).span_rows(), ())

    def test_most_is_passed_by_keyword_alone(self):
        with self.assertRaises(TypeError):
            Book(Forest([]), 60)

    def test_limit_is_a_property_that_is_only_read(self):
        self.assertIsInstance(vars(Book)["limit"], property)
        book = Book(Forest(ROWS), most=60)
        with self.assertRaises(AttributeError):
            book.limit = 70
        self.assertEqual(book.limit, 60)

    def test_nothing_to_take_back(self):
        book = Book(Forest(ROWS), most=60)
        before = shown(book)
        for call in (book.undo, book.redo):
            with self.assertRaises(NoBack):
                call()
        self.assertEqual((shown(book), book.many()), (before, 0))


class Doing(Books):
    def test_the_changes_of_all_tables(self):
        for seed, levels in enumerate([[], *large_levels().values()]):
            rows = rows_of(levels)
            book = Book(Forest(rows), most=130)
            for place, (_, deed, behind) in enumerate(history(seed, 18, rows)):
                told = [table.apply(deed) for table in tables_of(book)]
                changes = book.do(deed)
                self.assertIs(type(changes), tuple)
                self.assertEqual(changes, tuple(told))
                self.assertTrue(all(isinstance(change, Change) for change in changes))
                self.assertEqual((book.forest().rows, book.many()), (behind, place + 1))
                self.right(book)

    def test_by_hand(self):
        book = Book(Forest(ROWS), most=8)
        changes = book.do(deed=Put("d", 4, "a", 1))
        self.assertEqual(changes, (Change(("d",), (), ("a", "b")), Change(("d",), (), ()),
                                   Change((("a", "d"), ("d", "d")), (), ())))
        self.assertEqual(book.span_rows(), (("a", 1, 0, 5), ("b", 2, 1, 2), ("d", 4, 3, 4), ("c", 3, 6, 7)))

    def test_a_deed_that_changes_nothing_counts(self):
        book = Book(Forest(ROWS), most=60)
        before = shown(book)
        for deed in (Reverse("a"), SetValue("a", 1), Move("c", None, 1)):
            self.assertEqual(book.do(deed), (Change((), (), ()),) * 3)
        self.assertEqual((shown(book), book.many()), (before, 3))

    def test_no_deed_ahead_of_full(self):
        book = Book(Forest(ROWS), most=6)
        before = shown(book)
        for deed, why in NO_DEEDS:
            with self.assertRaises(NoDeed) as caught:
                book.do(deed)
            self.assertEqual(caught.exception.why, why)
        for deed in (Put("x", 1, None, 0), Wrap("x", 1, "a", 0, 1)):
            with self.assertRaises(Full) as caught:
                book.do(deed)
            self.assertEqual(caught.exception.needed, 8)
        self.assertEqual((shown(book), book.many()), (before, 0))
        full = Book(Forest(rows_of([0] * 60)), most=120)
        with self.assertRaises(NoDeed) as caught:
            full.do(Put("x", 1, None, 0))
        self.assertEqual(caught.exception.why, "many")

    def test_errors_leave_what_was_taken_back(self):
        book = Book(Forest(ROWS), most=6)
        book.do(SetValue("a", 9))
        book.mark("m")
        behind = shown(book)
        book.undo()
        for call, kind in ((lambda: book.do(Cut("x")), NoDeed), (lambda: book.do(Put("x", 1, None, 0)), Full),
                           (lambda: book.do_all([Cut("a"), Cut("a")]), NoDeeds), (lambda: book.do_all(None), NoDeeds),
                           (lambda: book.set_bound(0), NoBound), (lambda: book.set_bound(5), Full),
                           (lambda: book.mark("M"), NoName), (lambda: book.back_to("x"), NoMark)):
            with self.assertRaises(kind):
                call()
        self.assertEqual(book.many(), 0)
        self.assertEqual(book.back_to("m"), -1)
        self.assertEqual(shown(book), behind)


class DoingAll(Books):
    def test_all_or_none(self):
        for seed, levels in enumerate([[], *large_levels().values()]):
            rows = rows_of(levels)
            one, other = Book(Forest(rows), most=140), Book(Forest(rows), most=140)
            steps = history(50 + seed, 24, rows)
            for at in range(0, 24, 6):
                deeds = [deed for _, deed, _ in steps[at:at + 6]]
                given = list(deeds)
                self.assertEqual(one.do_all(deeds if at else tuple(deeds)), 6)
                self.assertEqual(deeds, given)
                for deed in deeds:
                    other.do(deed)
                # One after the other: just the rows that the single deeds lead to.
                self.assertEqual(shown(one), shown(other))
                self.assertEqual((one.many(), other.many()), (at // 6 + 1, at + 6))
            for _ in range(4):
                one.undo()
            self.assertEqual(shown(one), shown(Book(Forest(rows), most=140)))

    def test_without_deeds(self):
        book = Book(Forest(ROWS), most=60)
        book.do(Cut("a"))
        book.undo()
        before = shown(book)
        for deeds in ([], ()):
            self.assertEqual(book.do_all(deeds=deeds), 0)
        self.assertEqual((shown(book), book.many()), (before, 0))
        book.redo()
        self.assertEqual(book.forest().names(), ["c"])

    def no_deeds(self, book, deeds, place, why):
        before, many = shown(book), book.many()
        with self.assertRaises(NoDeeds) as caught:
            book.do_all(deeds)
        self.assertEqual((caught.exception.place, caught.exception.why), (place, why))
        self.assertEqual((shown(book), book.many()), (before, many))

    def test_errors(self):
        book = Book(Forest(ROWS), most=8)
        for thing in (None, True, 0, "", "ab", b"ab", {}, Cut("a"), range(2), Forest(ROWS)):
            self.no_deeds(book, thing, -1, "deeds")
        right = [Put("x", 1, None, 0), Cut("b"), SetValue("c", 9)]
        for count in range(4):
            for deed, why in [(None, "deed"), (Put("A", 1, None, 0), "name"), (SetValue("c", None), "value"),
                              (Cut("y"), "node"), (Put("c", 1, None, 0), "taken"), (Move("c", "c", 0), "below"),
                              (Put("y", 1, None, 9), "rank")]:
                for behind in ([], [None], right):
                    self.no_deeds(book, right[:count] + [deed] + behind, count, why)
                    self.no_deeds(book, (*right[:count], deed, *behind), count, why)

    def test_full(self):
        book = Book(Forest(ROWS), most=8)
        x, y, z = Put("x", 1, None, 0), Put("y", 1, "a", 0), Wrap("z", 1, None, 0, 2)
        self.no_deeds(book, [x, y], 1, "full")
        self.no_deeds(book, [x, Cut("c"), y, z], 3, "full")
        self.no_deeds(book, [x, Cut("c"), Cut("c"), y, z], 2, "node")
        self.no_deeds(book, [x, y, None], 1, "full")
        self.no_deeds(book, [x, Put("x", 1, None, 0), y], 1, "taken")
        self.no_deeds(book, [x, Put("y", 1, None, 9)], 1, "rank")
        self.assertEqual(book.do_all([x, Cut("c"), y]), 3)
        full = Book(Forest(rows_of([0] * 59)), most=118)
        self.no_deeds(full, [Put("x", 1, None, 0)], 0, "full")
        full.set_bound(120)
        self.no_deeds(full, [Put("x", 1, None, 0), Put("y", 1, None, 0)], 1, "many")


class Bounds(Books):
    def test_set_as_a_table_sets_it(self):
        for levels in ([], [0, 1, 1, 0], *large_levels().values()):
            rows = rows_of(levels)
            book = Book(Forest(rows), most=2 * len(rows) + 40)
            for bound in (2 * len(rows) + 1, 2 * len(rows) + 3, 2 * len(rows) + 1, max(1, 2 * len(rows)), GREAT):
                table = tables_of(book)[0]
                table.set_bound(bound)
                others = (book.key_rows(), book.pair_rows())
                self.assertIsNone(book.set_bound(bound=bound))
                self.assertEqual((book.span_rows(), book.limit), (table.rows, bound))
                self.assertEqual((book.key_rows(), book.pair_rows()), others)
                self.right(book)
            self.assertEqual(book.many(), 5)
            for _ in range(5):
                book.undo()
            self.assertEqual(shown(book), shown(Book(Forest(rows), most=2 * len(rows) + 40)))

    def test_the_same_bound_counts(self):
        book = Book(Forest(ROWS), most=60)
        before = shown(book)
        book.set_bound(60)
        self.assertEqual((shown(book), book.many()), (before, 1))

    def test_errors(self):
        book = Book(Forest(ROWS), most=60)
        before = shown(book)
        for bound in NO_BOUNDS:
            with self.assertRaises(NoBound) as caught:
                book.set_bound(bound)
            self.assertIs(caught.exception.most, bound)
        for bound in range(1, 6):
            with self.assertRaises(Full) as caught:
                book.set_bound(bound)
            self.assertEqual(caught.exception.needed, 6)
        self.assertEqual((shown(book), book.many()), (before, 0))
        book.set_bound(6)
        self.assertEqual(book.limit, 6)
        with self.assertRaises(Full):
            book.do(Put("x", 1, None, 0))
        book.undo()
        book.do(Put("x", 1, None, 0))
        self.assertEqual((book.limit, book.many()), (60, 1))


class Marks(Books):
    def no_mark(self, book, name):
        before, many = shown(book), book.many()
        with self.assertRaises(NoMark) as caught:
            book.back_to(name)
        self.assertIs(caught.exception.name, name)
        self.assertEqual((shown(book), book.many()), (before, many))

    def test_back_and_forth(self):
        book = Book(Forest(ROWS), most=60)
        states = [shown(book)]
        self.assertIsNone(book.mark("start"))
        for place, deed in enumerate([Cut("b"), SetValue("a", 5), Lift("c"), Put("x", 1, "a", 0)]):
            book.do(deed)
            states.append(shown(book))
            book.mark(name=f"m{place + 1}")
        for name, told, place in (("m2", 2, 2), ("m2", 0, 2), ("start", 2, 0), ("m4", -4, 4), ("m1", 3, 1),
                                  ("m3", -2, 3)):
            self.assertEqual(book.back_to(name=name), told)
            self.assertEqual((shown(book), book.many()), (states[place], place))

    def test_marks_are_no_part_of_the_history(self):
        book = Book(Forest(ROWS), most=60)
        book.do(Cut("b"))
        book.undo()
        book.mark("here")
        self.assertEqual(book.many(), 0)
        book.redo()
        self.assertEqual((book.forest().names(), book.back_to("here")), (["a", "c"], 1))
        self.assertEqual(book.many(), 0)

    def test_an_earlier_mark_is_forgotten(self):
        book = Book(Forest(ROWS), most=60)
        book.mark("m")
        book.do(Cut("b"))
        book.mark("m")
        book.do(Cut("a"))
        self.assertEqual(book.back_to("m"), 1)
        self.assertEqual(book.forest().names(), ["a", "c"])

    def test_places_that_are_gone(self):
        for again in (lambda book: book.do(Cut("b")), lambda book: book.do_all([Cut("b")]),
                      lambda book: book.set_bound(60), lambda book: book.do(Reverse(None))):
            book = Book(Forest(ROWS), most=60)
            book.mark("start")
            book.do(Cut("b"))
            book.mark("gone")
            book.do(Cut("a"))
            book.mark("far")
            book.undo()
            book.undo()
            again(book)
            self.no_mark(book, "gone")
            self.no_mark(book, "far")
            book.undo()
            self.no_mark(book, "gone")
            book.redo()
            self.no_mark(book, "gone")
            book.do(Reverse(None))
            self.no_mark(book, "far")
            self.assertEqual(book.back_to("start"), 2)
            book.mark("gone")
            book.redo()
            self.assertEqual(book.back_to("gone"), 1)

    def test_redo_keeps_the_places(self):
        book = Book(Forest(ROWS), most=60)
        book.do(Cut("b"))
        book.mark("m")
        book.undo()
        book.redo()
        book.do(Cut("a"))
        self.assertEqual(book.back_to("m"), 1)

    def test_what_is_done_behind_the_last_place_keeps_all(self):
        book = Book(Forest(ROWS), most=60)
        book.do(Cut("b"))
        book.mark("m")
        book.do(Cut("a"))
        self.assertEqual(book.back_to("m"), 1)
        # The new deed takes the place of the one that was undone, behind the mark.
        book.do(Cut("c"))
        self.assertEqual(book.back_to("m"), 1)
        self.assertEqual(book.back_to("m"), 0)

    def test_errors(self):
        book = Book(Forest(ROWS), most=60)
        before = shown(book)
        for thing in NO_NAMES:
            with self.assertRaises(NoName) as caught:
                book.mark(thing)
            self.assertIs(caught.exception.name, thing)
            self.no_mark(book, thing)
        for name in ("a", "m", "start"):
            self.no_mark(book, name)
        self.assertEqual(shown(book), before)


class Histories(Books):
    """Drawn calls against a list of all states that there were."""

    def play(self, seed, levels, most, calls):
        rng = random.Random(seed)
        book = Book(Forest(rows_of(levels)), most=most)
        states, now, marks = [shown(book)], 0, {}
        for call in range(calls):
            kind = rng.choice(["do", "do", "do", "all", "bound", "undo", "undo", "redo", "mark", "back", "wrong"])
            forest = book.forest()
            if kind in ("do", "all", "bound"):
                before = shown(book)
                if self.changed(rng, kind, book, forest, call):
                    states[now + 1:] = [shown(book)]
                    now += 1
                else:
                    self.assertEqual(shown(book), before)
            elif kind in ("undo", "redo"):
                step = -1 if kind == "undo" else 1
                if 0 <= now + step < len(states):
                    self.assertIsNone(getattr(book, kind)())
                    now += step
                else:
                    with self.assertRaises(NoBack):
                        getattr(book, kind)()
            elif kind == "mark":
                name = rng.choice("mnopq")
                self.assertIsNone(book.mark(name))
                # A place is still there as long as this very state is at it.
                marks[name] = (now, states[now])
            elif kind == "back":
                now = self.back(rng, book, states, now, marks)
            else:
                self.wrong(book)
            self.assertEqual(shown(book), states[now])
            self.assertEqual(book.many(), now)
        self.right(book)

    def changed(self, rng, kind, book, forest, call):
        """Do one thing; tell whether it could be done."""
        try:
            if kind == "do":
                deed = some_deed(rng, forest, f"d{call}")
                self.assertEqual(len(book.do(deed)), 3)
                self.assertEqual(book.forest(), done(forest, deed))
            elif kind == "all":
                deeds = []
                for at in range(rng.randrange(4)):
                    deeds.append(some_deed(rng, forest, f"d{call}x{at}"))
                    forest = done(forest, deeds[-1])
                self.assertEqual(book.do_all(deeds), len(deeds))
                self.assertEqual(book.forest(), forest)
                return len(deeds) > 0
            else:
                bound = max(1, 2 * len(forest) + rng.randrange(-3, 9))
                book.set_bound(bound)
                self.assertEqual(book.limit, bound)
        except Full:
            return False
        except NoDeeds as error:
            self.assertEqual(error.why, "full")
            return False
        return True

    def back(self, rng, book, states, now, marks):
        """Go to a mark, if its place is still there; tell the place where the book is then."""
        name = rng.choice("mnopq")
        place, state = marks.get(name, (0, None))
        if place < len(states) and states[place] is state:
            self.assertEqual(book.back_to(name), now - place)
            return place
        with self.assertRaises(NoMark):
            book.back_to(name)
        return now

    def wrong(self, book):
        """Calls that raise an error."""
        for call, kind in ((lambda: book.do(Cut("nobody")), NoDeed), (lambda: book.do_all([None]), NoDeeds),
                           (lambda: book.set_bound(0), NoBound), (lambda: book.mark("M"), NoName),
                           (lambda: book.back_to("nothing"), NoMark)):
            with self.assertRaises(kind):
                call()

    def test_small_and_tight(self):
        for seed in range(12):
            self.play(seed, [], 8 + seed, 150)

    def test_large(self):
        for seed, levels in enumerate(large_levels().values()):
            self.play(100 + seed, levels, 120 + 3 * seed, 40)

    def test_states_that_are_equal_are_different_places(self):
        book = Book(Forest(ROWS), most=60)
        book.do(Reverse("a"))
        book.mark("m")
        book.undo()
        book.do(Reverse("a"))
        with self.assertRaises(NoMark):
            book.back_to("m")

    def test_a_forest_by_itself_in_tables_and_in_a_book(self):
        for seed, levels in enumerate([[], *large_levels().values()]):
            rows = rows_of(levels)
            forest = Forest(rows)
            book = Book(forest, most=500)
            tables = [SpanTable.laid(forest, most=500), KeyTable.laid(forest), PairTable.laid(forest)]
            for place, (_, deed, _) in enumerate(history(20 + seed, 18, rows)):
                forest = done(forest, deed)
                book.do(deed)
                told = answers(forest, pairs=False)
                for table in tables:
                    table.apply(deed)
                if place % 6 == 5:
                    for thing in (book.forest(), *tables, *tables_of(book)):
                        self.assertEqual(answers(thing, pairs=False), told)

    def test_what_was_read_stays_as_it_was(self):
        book = Book(Forest(ROWS), most=60)
        read = shown(book), book.forest()
        told = book.do(Cut("a"))
        book.undo()
        self.assertEqual((shown(book), book.forest()), read)
        self.assertEqual(told[0], Change((), ("a", "b"), ()))


if __name__ == "__main__":
    unittest.main()
