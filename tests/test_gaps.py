"""For how many leaves a gap lasts ([11])."""

import unittest

from forestrows.errors import NoCount
from forestrows.forests import Forest
from forestrows.gaps import lasting, placed

GREAT = 10 ** 30
LARGE = [GREAT, GREAT - 1, GREAT // 2, 10 ** 20, 3 ** 40, 3 ** 40 - 1, 3 ** 40 - 2, 10 ** 6, 10 ** 6 + 1]
NO_COUNTS = [None, True, False, -1, -GREAT, GREAT + 1, "2", b"2", [2], (2,), {}, {2: 2}, Forest([]), len]


def longest(most):
    """For each number of free numbers the greatest number of leaves, by a search over all ways to put them."""
    found = []
    for free in range(most):
        ways = [min(found[before], found[inside], found[free - 2 - before - inside]) + 1
                for before in range(free - 1) for inside in range(free - 1 - before)]
        found.append(max(ways, default=0))
    return found


class Gaps(unittest.TestCase):
    def test_lasting_against_all_ways(self):
        self.assertEqual([lasting(free) for free in range(90)], longest(90))

    def test_the_steps(self):
        free = 0
        for times in range(63):
            self.assertEqual(lasting(free), times)
            if free > 0:
                self.assertEqual(lasting(free - 1), times - 1)
            free = 3 * free + 2
        self.assertGreater(free, GREAT)
        self.assertEqual([lasting(free) for free in (0, 1, 2, 7, 8, 25, 26)], [0, 0, 1, 1, 2, 2, 3])

    def test_the_fact(self):
        for free in [*range(2, 3000), *LARGE]:
            self.assertEqual(lasting(free), 1 + lasting((free - 2) // 3))

    def test_placed_lasts_so_long(self):
        for free in [*range(2, 3000), *LARGE]:
            pair = placed(free)
            self.assertIs(type(pair), tuple)
            before, inside = pair
            behind = free - 2 - before - inside
            self.assertTrue(all(type(part) is int and part >= 0 for part in (before, inside, behind)))
            self.assertEqual(1 + min(lasting(part) for part in (before, inside, behind)), lasting(free))

    def test_no_room(self):
        self.assertIsNone(placed(0))
        self.assertIsNone(placed(1))
        self.assertEqual(placed(2), (0, 0))

    def test_no_count(self):
        for thing in NO_COUNTS:
            for call in (lasting, placed):
                with self.assertRaises(NoCount) as caught:
                    call(thing)
                self.assertIs(caught.exception.free, thing)
        self.assertGreater(lasting(GREAT), 60)

    def test_by_keyword(self):
        self.assertEqual(lasting(free=8), 2)
        self.assertEqual(placed(free=2), (0, 0))


if __name__ == "__main__":
    unittest.main()
