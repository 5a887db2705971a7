"""How span tables change: become, apply and set_bound, and that as few rows as possible change ([9], [10])."""

import random
import unittest

from forestrows.deeds import Cut, Lift, Move, Put, Reverse, SetValue, Wrap
from forestrows.doing import done
from forestrows.errors import Full, NoBound, NoDeed
from forestrows.forests import Forest
from forestrows.judging import judge_spans
from forestrows.keeping import check_spans, span_certificate
from forestrows.spans import SpanTable
from forestrows.tables import Change
from playing import all_deeds, answers, history
from shapes import all_levels, large_levels, rows_of
from spanning import can_keep, fewest_changed, most_kept, shuffled_cases, small_cases, some_numbers, with_numbers

GREAT = 10 ** 30


class Changes(unittest.TestCase):
    def told(self, change, before, table):
        """The change is the one from the rows before to those of the table."""
        old = {row[0]: row for row in before}
        new = {row[0]: row for row in table.rows}
        self.assertIsInstance(change, Change)
        self.assertEqual(change.added, tuple(sorted(new.keys() - old.keys())))
        self.assertEqual(change.gone, tuple(sorted(old.keys() - new.keys())))
        self.assertEqual(change.changed, tuple(sorted(name for name in new if name in old and new[name] != old[name])))

    def right(self, table, rows, most):
        """The table has right rows of the forest."""
        self.assertIsNone(judge_spans(table.rows, most))
        self.assertEqual([row[2] for row in table.rows], sorted(row[2] for row in table.rows))
        self.assertEqual(table.forest().rows, tuple(rows))
        self.assertEqual((table.limit, len(table)), (most, len(rows)))
        self.assertEqual(table.names(), [row[0] for row in rows])

    def proved(self, table, forest):
        """How many names are common and have to change, told by a certificate that is let by."""
        proof = span_certificate(table, forest)
        self.assertIs(check_spans(table, forest, proof), True)
        self.assertTrue(can_keep(proof.kept, table.rows, forest.rows, table.limit))
        return len([name for name in forest if name in table]) - len(proof.kept)


class Become(Changes):
    def check(self, before, rows, most, fewest):
        table = SpanTable(before, most)
        forest = Forest(rows)
        self.assertEqual(self.proved(table, forest), fewest)
        change = table.become(forest)
        self.told(change, before, table)
        self.right(table, rows, most)
        self.assertEqual(len(change.changed), fewest, (before, rows, most, table.rows))
        self.assertEqual(forest.rows, tuple(rows))

    def test_against_all_right_rows(self):
        for before, rows, most in [*small_cases(11, 700), *shuffled_cases(12, 900)]:
            self.check(before, rows, most, fewest_changed(before, rows, most))

    def test_against_all_sets_of_names(self):
        for before, rows, most in [*small_cases(13, 600), *shuffled_cases(14, 600)]:
            common = [row for row in rows if row[0] in [one[0] for one in before]]
            self.check(before, rows, most, len(common) - most_kept(before, rows, most))

    def test_an_equal_forest_changes_nothing(self):
        rng = random.Random(15)
        for levels in [*all_levels(4), *large_levels().values()]:
            rows = rows_of(levels)
            for most in (2 * len(rows), 2 * len(rows) + 3, GREAT):
                table = SpanTable(with_numbers(rows, some_numbers(rng, 2 * len(rows), most)), most)
                before = table.rows
                self.assertEqual(table.become(table.forest()), Change((), (), ()))
                self.assertEqual((table.rows, table.limit), (before, most))

    def test_full(self):
        table = SpanTable([("a", 1, 0, 2)], 5)
        for count in range(3, 61):
            with self.assertRaises(Full) as caught:
                table.become(Forest(rows_of([0] * count)))
            self.assertEqual(caught.exception.needed, 2 * count)
            self.assertEqual((table.rows, table.limit), ((("a", 1, 0, 2),), 5))
            self.assertEqual(table.names(), ["a"])
        self.assertEqual(table.become(forest=Forest(rows_of([0, 1]))), Change(("n0", "n1"), ("a",), ()))
        self.right(table, rows_of([0, 1]), 5)

    def test_to_and_from_no_nodes(self):
        table = SpanTable([], 120)
        rows = rows_of([0] * 60)
        self.assertEqual(table.become(Forest(rows)), Change(tuple(sorted(row[0] for row in rows)), (), ()))
        self.assertEqual(sorted(number for row in table.rows for number in row[2:]), list(range(120)))
        self.assertEqual(table.become(Forest([])), Change((), tuple(sorted(row[0] for row in rows)), ()))
        self.assertEqual((table.rows, table.forest(), table.limit), ((), Forest([]), 120))

    def test_a_value_changes_one_row_alone(self):
        for levels in large_levels().values():
            rows = rows_of(levels)
            table = SpanTable.laid(Forest(rows), most=120)
            rows[30] = (rows[30][0], 5, rows[30][2])
            self.assertEqual(table.become(Forest(rows)).changed, ("n30",))
            self.right(table, rows, 120)

    def test_rows_that_were_read_stay_as_they_were(self):
        table = SpanTable([("a", 1, 0, 3), ("b", 1, 1, 2)], 4)
        rows = table.rows
        table.become(Forest([("b", 1, 0), ("a", 1, 0)]))
        self.assertEqual(rows, (("a", 1, 0, 3), ("b", 1, 1, 2)))


class Apply(Changes):
    def check(self, table, deed, exact=False):
        before, forest = table.rows, table.forest()
        behind = done(forest, deed)
        fewest = self.proved(table, behind)
        if exact:
            self.assertEqual(fewest, fewest_changed(before, behind.rows, table.limit))
        change = table.apply(deed)
        self.told(change, before, table)
        self.right(table, behind.rows, table.limit)
        self.assertEqual(len(change.changed), fewest)
        return change

    def test_example(self):
        table = SpanTable.laid(Forest([("a", 1, 0), ("b", 2, 1), ("c", 3, 0)]), most=8)
        change = table.apply(Put("d", 4, "a", 1))
        self.assertEqual((change.added, change.gone, change.changed), (("d",), (), ("a", "b")))
        self.assertEqual(table.rows, (("a", 1, 0, 5), ("b", 2, 1, 2), ("d", 4, 3, 4), ("c", 3, 6, 7)))

    def test_all_deeds_on_small_forests(self):
        rng = random.Random(21)
        for levels in [levels for count in range(5) for levels in all_levels(count)]:
            rows = rows_of(levels)
            for deed in all_deeds(rows):
                count = len(done(Forest(rows), deed))
                most = max(1, 2 * max(count, len(rows)) + rng.randrange(3))
                numbers = sorted(rng.sample(range(most), 2 * len(rows)))
                self.check(SpanTable(with_numbers(rows, numbers), most), deed, exact=most < 11)

    def test_what_takes_away_changes_no_row(self):
        for levels in large_levels().values():
            forest = Forest(rows_of(levels))
            for name in ("n0", "n30", "n59"):
                for deed in (Cut(name), Lift(name)):
                    change = self.check(SpanTable.laid(forest, most=120), deed)
                    self.assertEqual((change.added, change.changed), ((), ()))

    def test_puts_where_there_is_room_change_no_row(self):
        table = SpanTable.laid(Forest([]), most=GREAT)
        for place in range(60):
            change = self.check(table, Put(f"n{place}", 1, None if place < 2 else f"n{place // 2}", 0))
            self.assertEqual(change, Change((f"n{place}",), (), ()))

    def test_histories(self):
        for seed, (levels, most) in enumerate([([], 120), ([], GREAT), ([0, 1, 2], 121)]
                                              + [(levels, 120 + 7 * seed) for seed, levels
                                                 in enumerate(large_levels().values())]):
            rows = rows_of(levels)
            table = SpanTable.laid(Forest(rows), most=most)
            for place, (_, deed, behind) in enumerate(history(30 + seed, 60, rows)):
                self.check(table, deed)
                if place % 12 == 0:
                    self.assertEqual(answers(table), answers(Forest(behind)))

    def test_full(self):
        table = SpanTable([("a", 1, 0, 3), ("b", 1, 1, 2)], 5)
        rows = table.rows
        for deed in (Put("c", 1, None, 0), Wrap("c", 1, None, 0, 1), Put("c", 1, "b", 0)):
            with self.assertRaises(Full) as caught:
                table.apply(deed)
            self.assertEqual(caught.exception.needed, 6)
            self.assertEqual((table.rows, table.limit, table.forest().names()), (rows, 5, ["a", "b"]))
        table.set_bound(6)
        self.check(table, Put("c", 1, "b", 0))

    def test_no_deed_ahead_of_full(self):
        table = SpanTable([("a", 1, 0, 3), ("b", 1, 1, 2)], 4)
        for deed, why in ((None, "deed"), (Put("C", 1, None, 0), "name"), (SetValue("a", None), "value"),
                          (Cut("x"), "node"), (Put("a", 1, None, 0), "taken"), (Move("a", "b", 0), "below"),
                          (Put("c", 1, None, 2), "rank"), (Wrap("c", 1, None, 1, 1), "rank")):
            with self.assertRaises(NoDeed) as caught:
                table.apply(deed)
            self.assertEqual(caught.exception.why, why)
            self.assertEqual((table.rows, table.limit), ((("a", 1, 0, 3), ("b", 1, 1, 2)), 4))
        full = SpanTable.laid(Forest(rows_of([0] * 60)), most=120)
        with self.assertRaises(NoDeed) as caught:
            full.apply(Put("c", 1, None, 0))
        self.assertEqual(caught.exception.why, "many")

    def test_by_keyword_and_with_deeds_that_change_nothing(self):
        table = SpanTable([("a", 1, 0, 3), ("b", 1, 1, 2)], 4)
        rows = table.rows
        for deed in (Reverse("a"), Reverse(None), Move("b", "a", 0), SetValue("b", 1)):
            self.assertEqual(table.apply(deed=deed), Change((), (), ()))
            self.assertEqual(table.rows, rows)


class SetBound(Changes):
    def check(self, before, most, bound, fewest):
        table = SpanTable(before, most)
        rows = table.forest().rows
        self.assertIsNone(table.set_bound(bound))
        self.right(table, rows, bound)
        self.assertEqual(len([row for row in table.rows if row not in before]), fewest, (before, most, bound))

    def test_against_all_right_rows(self):
        for before, _, most in [*small_cases(41, 300), *shuffled_cases(42, 300)]:
            rows = SpanTable(before, most).forest().rows
            for bound in range(max(1, 2 * len(rows)), 11):
                self.check(before, most, bound, fewest_changed(before, rows, bound))

    def test_a_larger_bound_changes_no_row(self):
        rng = random.Random(43)
        for levels in large_levels().values():
            before = with_numbers(rows_of(levels), some_numbers(rng, 120, 1000))
            for bound in (1000, 1001, GREAT):
                self.check(before, 1000, bound, 0)

    def test_large_forests_in_bounds_that_are_just_enough(self):
        rng = random.Random(44)
        for levels in large_levels().values():
            rows = rows_of(levels)
            before = with_numbers(rows, some_numbers(rng, 120, 130))
            for bound in (120, 121, 125):
                self.check(before, 130, bound, 60 - most_kept_large(before, rows, bound))

    def test_errors(self):
        table = SpanTable([("a", 1, 0, 3), ("b", 1, 1, 2)], 9)
        rows = table.rows
        for bound in (None, True, False, 0, -1, GREAT + 1, "9", b"9", [9], (), {}, Forest([])):
            with self.assertRaises(NoBound) as caught:
                table.set_bound(bound)
            self.assertIs(caught.exception.most, bound)
            self.assertEqual((table.rows, table.limit), (rows, 9))
        for bound in (1, 2, 3):
            with self.assertRaises(Full) as caught:
                table.set_bound(bound)
            self.assertEqual(caught.exception.needed, 4)
            self.assertEqual((table.rows, table.limit), (rows, 9))
        table.set_bound(bound=4)
        self.assertEqual((table.rows, table.limit), (rows, 4))
        empty = SpanTable([], 5)
        empty.set_bound(1)
        self.assertEqual((empty.rows, empty.limit), ((), 1))


def most_kept_large(before, rows, most):
    """How many of the rows of the same forest can be kept below a bound.

    The shifts of the ends ascend already, so all rows can stay that are low enough.
    """
    return sum(can_keep([row[0]], before, rows, most) for row in rows)


if __name__ == "__main__":
    unittest.main()
