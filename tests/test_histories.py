"""Whole histories of deeds, forwards and back ([4] to [6])."""

import unittest

from forestrows.doing import done, played, undoing
from forestrows.forests import Forest
from playing import answers, history
from shapes import large_levels, rows_of


def beginnings():
    """Rows to begin with: none, few, and 60."""
    return [(), rows_of([0, 1, 2, 1, 0]), *[rows_of(levels) for levels in large_levels().values()]]


class Histories(unittest.TestCase):
    def test_rows_and_answers_behind_each_deed(self):
        for seed, rows in enumerate(beginnings()):
            forest = Forest(rows)
            for place, (before, deed, behind) in enumerate(history(seed, 120, rows)):
                self.assertEqual(forest.rows, before)
                forest = done(forest, deed)
                self.assertEqual(forest.rows, behind, vars(deed))
                if place % 10 == 0:
                    self.assertEqual(answers(forest), answers(Forest(behind)))

    def test_played_at_once(self):
        for seed, rows in enumerate(beginnings()):
            steps = history(100 + seed, 80, rows)
            forests = played(Forest(rows), [deed for _, deed, _ in steps])
            self.assertEqual([forest.rows for forest in forests], [tuple(rows)] + [step[2] for step in steps])

    def test_undone_from_the_last_to_the_first(self):
        for seed, rows in enumerate(beginnings()):
            steps = history(200 + seed, 100, rows)
            forests = played(Forest(rows), [deed for _, deed, _ in steps])
            backs = [undoing(forest, deed) for forest, (_, deed, _) in zip(forests, steps)]
            self.assertLessEqual(max(len(back) for back in backs), 61)
            forest = forests[-1]
            for place in reversed(range(len(steps))):
                forest = played(forest, backs[place])[-1]
                self.assertEqual(forest.rows, steps[place][0])
            self.assertEqual(forest, Forest(rows))

    def test_histories_reach_full_forests(self):
        lengths = [len(behind) for seed, rows in enumerate(beginnings()) for _, _, behind in history(seed, 120, rows)]
        self.assertEqual(max(lengths), 60)
        self.assertIn(59, lengths)


if __name__ == "__main__":
    unittest.main()
