"""Forests for the tests, and a second way to answer: by trees that hold one another."""


def all_levels(count):
    """The rows of levels of all forests with so many nodes."""
    found = [[]]
    for _ in range(count):
        found = [levels + [level] for levels in found
                 for level in range(levels[-1] + 2 if levels else 1)]
    return found


def rows_of(levels):
    """Rows with these levels; no two parts of them have the same sum of values."""
    return [(f"n{place}", (-2) ** place, level) for place, level in enumerate(levels)]


def zigzag(count):
    """Levels that go up one by one and fall back now further, now less far."""
    levels = []
    for place in range(count):
        levels.append((place * place * 7 + 3) % (levels[-1] + 2) if levels else 0)
    return levels


def large_levels():
    """Levels of forests with 60 nodes."""
    return {
        "chain": list(range(60)),
        "flat": [0] * 60,
        "star": [0] + [1] * 59,
        "comb": [place // 2 + place % 2 for place in range(60)],
        "pairs": [place % 2 for place in range(60)],
        "zigzag": zigzag(60),
    }


def all_rows():
    """The rows of all forests with up to six nodes, and of some with 60."""
    small = [levels for count in range(7) for levels in all_levels(count)]
    return [rows_of(levels) for levels in small + list(large_levels().values())]


class Tree:
    """A node that holds its children."""

    def __init__(self, name, value, parent):
        self.name = name
        self.value = value
        self.parent = parent
        self.children = []

    def walk(self):
        """The node and all below it, in preorder."""
        return [self] + [tree for child in self.children for tree in child.walk()]

    def above(self):
        """The nodes above, from the root down."""
        return [] if self.parent is None else self.parent.above() + [self.parent]


def grown(rows):
    """The roots of the trees of some rows."""
    roots = []
    latest = {}
    for name, value, level in rows:
        tree = Tree(name, value, latest.get(level - 1))
        (tree.parent.children if tree.parent else roots).append(tree)
        latest[level] = tree
    return roots
