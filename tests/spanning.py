"""Span rows for the tests, and slow ways to tell what rows of a forest can be kept."""

import itertools
import random

from forestrows.forests import Forest
from playing import planted
from shapes import all_levels


def end_names(rows):
    """The names in the order in which a walk around the forest meets the ends of their subtrees."""
    def walk(nodes):
        return [name for node in nodes for name in [node[0], *walk(node[2]), node[0]]]
    return walk(planted(rows))


def with_numbers(rows, numbers):
    """The span rows, in preorder, of a forest whose ends have these ascending numbers."""
    ends = {}
    for name, number in zip(end_names(rows), numbers):
        ends.setdefault(name, []).append(number)
    return [(name, value, *ends[name]) for name, value, _ in rows]


def all_span_rows(rows, most):
    """All lists of right span rows of a forest below a bound."""
    return [with_numbers(rows, numbers) for numbers in itertools.combinations(range(most), 2 * len(rows))]


def some_numbers(rng, count, most):
    """Ascending numbers below a bound: tight ones, near ones or far ones."""
    kind = rng.randrange(3)
    if kind == 0 or most <= count:
        start = rng.randrange(most - count + 1)
        return list(range(start, start + count))
    if kind == 1:
        start = rng.randrange(max(1, most - 2 * count))
        return sorted(rng.sample(range(start, min(most, start + 2 * count)), count))
    numbers = {}
    while len(numbers) < count:
        numbers[rng.randrange(most)] = True
    return sorted(numbers)


def fewest_changed(before, rows, most):
    """How few rows can change, by a search through all right rows of the forest."""
    held = {row[0]: row for row in before}
    there = [row for row in rows if row[0] in held]
    return min(sum(held[row[0]] != row for row in after if row[0] in held)
               for after in all_span_rows(rows, most)) if there else 0


def can_keep(names, before, rows, most):
    """Whether there are right rows of the forest below the bound with the rows that these names had."""
    held = {row[0]: row for row in before}
    value = {row[0]: row[1] for row in rows}
    if any(name not in held or name not in value or held[name][1] != value[name] for name in names):
        return False
    seen = {}
    lowest = 0
    ends = end_names(rows)
    for place, name in enumerate(ends):
        number = held[name][3 if name in seen else 2] if name in names else lowest
        seen[name] = True
        # As many numbers as there are ends from here on have to be left.
        if number < lowest or most - number < len(ends) - place:
            return False
        lowest = number + 1
    return True


def most_kept(before, rows, most):
    """How many rows can be kept, by a search through all sets of names."""
    names = [row[0] for row in rows if row in [(name, value, row[2]) for name, value, _, _ in before]]
    for count in range(len(names), -1, -1):
        if any(can_keep(some, before, rows, most) for some in itertools.combinations(names, count)):
            return count
    return 0


def some_rows(rng, count, names):
    """The rows of some forest with so many of these names; values are seldom others than 0."""
    levels = []
    for _ in range(count):
        levels.append(rng.randrange(levels[-1] + 2) if levels else 0)
    return [(name, int(rng.randrange(8) == 0), level) for name, level in zip(rng.sample(names, count), levels)]


def small_cases(seed, many):
    """Span rows with their bound, and the rows of another forest: small ones with numbers close together."""
    rng = random.Random(seed)
    for _ in range(many):
        one, other = rng.randrange(5), rng.randrange(5)
        before = some_rows(rng, one, "abcde")
        most = rng.randrange(max(1, 2 * one, 2 * other), 11)
        numbers = sorted(rng.sample(range(most), 2 * one))
        yield with_numbers(before, numbers), some_rows(rng, other, "abcde"), most


def shuffled_cases(seed, many):
    """As small_cases, but with the same names in both, and equal values: the most can be kept."""
    rng = random.Random(seed)
    for _ in range(many):
        count = rng.randrange(1, 5)
        shapes = list(all_levels(count))
        names = list("abcd"[:count])
        before = [(name, 0, level) for name, level in zip(names, rng.choice(shapes))]
        if rng.randrange(2):
            rng.shuffle(names)
        rows = [(name, 0, level) for name, level in zip(names, rng.choice(shapes))]
        most = rng.randrange(2 * count, 2 * count + 4)
        yield with_numbers(before, sorted(rng.sample(range(most), 2 * count))), rows, most


def forest_of(rows):
    """The forest of span rows, by the numbers alone."""
    ordered = sorted(rows, key=lambda row: row[2])
    return Forest([(row[0], row[1], sum(one[2] < row[2] and row[3] < one[3] for one in rows)) for row in ordered])
