"""Key rows and pair rows for the tests, and slow ways to tell what key rows can be kept."""

import itertools

from forestrows.labels import split_key
from shapes import all_levels, grown
from spanning import some_rows


def key_rows(rng, rows):
    """Right key rows of a forest, in preorder, with labels of several lengths."""
    def label():
        return bytes(2 * rng.randrange(128) + 1 for _ in range(rng.choice([0, 0, 1, 2]))) + bytes(
            [2 * rng.randrange(1, 128)])

    found = []

    def walk(trees, start):
        labels = {}
        while len(labels) < len(trees):
            labels[label()] = True
        for tree, one in zip(trees, sorted(labels)):
            found.append((tree.name, tree.value, start + one))
            walk(tree.children, start + one)

    walk(grown(rows), b"")
    return found


def pair_rows(rows):
    """All pair rows of a forest."""
    found = []
    roots = grown(rows)
    for tree in [one for root in roots for one in root.walk()]:
        line = [*tree.above(), tree]
        for place, one in enumerate(line):
            siblings = one.parent.children if one.parent else roots
            found.append((one.name, tree.name, len(line) - 1 - place, siblings.index(one), tree.value))
    return found


def mixed(rng, rows):
    """The rows in another order, as lists or tuples."""
    rows = [rng.choice([list, tuple])(row) for row in rows]
    rng.shuffle(rows)
    return rng.choice([list, tuple])(rows)


def walk_of(rows):
    """All nodes of a forest in preorder."""
    return [tree for root in grown(rows) for tree in root.walk()]


def can_keep_keys(names, before, rows):
    """Whether there are right key rows of the forest with the rows that these names had.

    The keys of the names tell those of all nodes above them. Between any two labels there are others for the rest.
    """
    held = {row[0]: row for row in before}
    trees = walk_of(rows)
    by_name = {tree.name: tree for tree in trees}
    told = {}
    for name in names:
        if name not in held or name not in by_name or held[name][1] != by_name[name].value:
            return False
        labels, line = split_key(held[name][2]), [*by_name[name].above(), by_name[name]]
        if len(labels) != len(line):
            return False
        for depth, tree in enumerate(line):
            start = b"".join(labels[:depth + 1])
            if told.setdefault(tree.name, start) != start:
                return False
    needed = [told[tree.name] for tree in trees if tree.name in told]
    return needed == sorted(set(needed))


def most_keys_kept(before, rows):
    """How many key rows can be kept, by a search through all sets of names."""
    names = [row[0] for row in rows if can_keep_keys([row[0]], before, rows)]
    for count in range(len(names), -1, -1):
        if any(can_keep_keys(some, before, rows) for some in itertools.combinations(names, count)):
            return count
    return 0


def key_cases(rng, many):
    """Key rows, and the rows of another forest: small ones, many of them with the same names."""
    for _ in range(many):
        count = rng.randrange(1, 7)
        names = list("abcdef"[:count])
        if rng.randrange(3):
            # The same names, most of them in another order.
            one = [(name, 0, level) for name, level in zip(names, rng.choice(list(all_levels(count))))]
            if rng.randrange(2):
                rng.shuffle(names)
            other = [(name, 0, level) for name, level in zip(names, rng.choice(list(all_levels(count))))]
        else:
            one, other = some_rows(rng, count, "abcdefg"), some_rows(rng, rng.randrange(7), "abcdefg")
        yield key_rows(rng, one), other


def long_labels(rng, count, length):
    """Ascending labels of about this length whose first bytes are the same for a long way."""
    start = bytes(2 * rng.randrange(128) + 1 for _ in range(length - 3))
    found = {}
    while len(found) < count:
        end = bytes(rng.choice([1, 3, 253, 255]) for _ in range(rng.randrange(4)))
        cut = start[:rng.randrange(len(start) + 1)] if rng.randrange(4) == 0 else start
        found[cut + end + bytes([rng.choice([2, 4, 252, 254])])] = True
    return sorted(found)
