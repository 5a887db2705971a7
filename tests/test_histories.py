"""Whole histories of deeds, forwards and back, and in all layouts ([4] to [6], [17])."""

import unittest

from forestrows.doing import done, played, undoing
from forestrows.forests import Forest
from forestrows.keys import KeyTable
from forestrows.pairs import PairTable
from forestrows.spans import SpanTable
from playing import answers, history
from shapes import large_levels, rows_of


def beginnings():
    """Rows to begin with: none, few, and 60."""
    return [(), rows_of([0, 1, 2, 1, 0]), *[rows_of(levels) for levels in large_levels().values()]]


class Histories(unittest.TestCase):
    def test_rows_and_answers_behind_each_deed(self):
        for seed, rows in enumerate(beginnings()):
            forest = Forest(rows)
            for place, (before, deed, behind) in enumerate(history(seed, 120, rows)):
                self.assertEqual(forest.rows, before)
                forest = done(forest, deed)
                self.assertEqual(forest.rows, behind, vars(deed))
                if place % 10 == 0:
                    self.assertEqual(answers(forest), answers(Forest(behind)))

    def test_played_at_once(self):
        for seed, rows in enumerate(beginnings()):
            steps = history(100 + seed, 80, rows)
            forests = played(Forest(rows), [deed for _, deed, _ in steps])
            self.assertEqual([forest.rows for forest in forests], [tuple(rows)] + [step[2] for step in steps])

    def test_undone_from_the_last_to_the_first(self):
        for seed, rows in enumerate(beginnings()):
            steps = history(200 + seed, 100, rows)
            forests = played(Forest(rows), [deed for _, deed, _ in steps])
            backs = [undoing(forest, deed) for forest, (_, deed, _) in zip(forests, steps)]
            self.assertLessEqual(max(len(back) for back in backs), 61)
            forest = forests[-1]
            for place in reversed(range(len(steps))):
                forest = played(forest, backs[place])[-1]
                self.assertEqual(forest.rows, steps[place][0])
            self.assertEqual(forest, Forest(rows))

    def test_the_same_answers_in_all_layouts(self):
        for seed, rows in enumerate(beginnings()):
            forest = Forest(rows)
            tables = [SpanTable.laid(forest, most=120 + 40 * seed), KeyTable.laid(forest), PairTable.laid(forest)]
            for place, (_, deed, behind) in enumerate(history(300 + seed, 25, rows)):
                forest = done(forest, deed)
                told = answers(forest, pairs=place % 10 == 0)
                for table in tables:
                    table.apply(deed)
                    self.assertEqual(answers(table, pairs=place % 10 == 0), told)
                    self.assertEqual(table.forest(), forest)
                self.assertEqual(forest.rows, behind)
                if place % 8 == 7:
                    # Tables of the rows as they are answer alike, too.
                    again = [SpanTable(tables[0].rows, tables[0].limit), KeyTable(tables[1].rows),
                             PairTable(tables[2].rows)]
                    self.assertEqual([answers(table, pairs=False) for table in again],
                                     [answers(forest, pairs=False)] * 3)

    def test_histories_reach_full_forests(self):
        lengths = [len(behind) for seed, rows in enumerate(beginnings()) for _, _, behind in history(seed, 120, rows)]
        self.assertEqual(max(lengths), 60)
        self.assertIn(59, lengths)


if __name__ == "__main__":
    unittest.main()
