"""Which key rows can be kept when a table becomes another forest, and certificates of that.

The forest of the table is called `old`. A pair (x, y) is a node of the new forest and one of the old forest, of the
same level: where x takes the key of y, rows below them can be kept. A dict of families has the children of each node
by its name, and the roots by None.
"""

from forestrows.kinds import has_integers
from forestrows.tables import Certificate


def key_certificate(table, forest):
    """A largest set of nodes that can keep their rows, and the numbers that show that it is one."""
    old = table.forest()
    inside, ending = _largest_sets(old, forest)
    worths = {pair: len(inside[pair]) for pair in inside}
    heights = {pair: len(ending[pair]) for pair in ending}
    return Certificate(_longest_below(forest.roots(), old.roots(), ending), worths, heights)


def check_keys(table, forest, thing):
    """Whether something is a certificate for this table and this forest."""
    old = table.forest()
    if not isinstance(thing, Certificate) or not _is_kept(thing.kept, old, forest):
        return False
    pairs = _pairs(old, forest)
    if not has_integers(thing.worths, pairs) or not has_integers(thing.heights, pairs):
        return False
    if not all([thing.heights[(x, y)] <= len(thing.kept) for x in forest.roots() for y in old.roots()]):
        return False
    return _are_worths(pairs, old, forest, thing) and _are_heights(pairs, old, forest, thing)


def taken_from(old, forest):
    """For nodes of a forest those of the old one whose keys they take, so that as many rows as can be are kept."""
    kept = _longest_below(forest.roots(), old.roots(), _largest_sets(old, forest)[1])
    found = {}
    for name in kept:
        for x, y in zip(_line(forest, name), _line(old, name)):
            found[x] = y
    return found


def _line(forest, name):
    """The ancestors of a node, from the root down, and the node itself."""
    return forest.ancestors_of(name) + [name]


def _families(forest):
    """The children of each node by its name, and the roots by None."""
    found = {name: forest.children_of(name) for name in forest}
    found[None] = forest.roots()
    return found


def _elders(families):
    """For each name the sibling before it, or None."""
    found = {}
    for parent in families:
        elder = None
        for name in families[parent]:
            found[name] = elder
            elder = name
    return found


def _levels(forest):
    """The names of each level, in order."""
    found = [[] for _ in range(forest.height())]
    for name, _, level in forest.rows:
        found[level].append(name)
    return found


def _pairs(old, forest):
    """All pairs; those of a deeper level come first, and those of elder siblings ahead of those of younger ones."""
    levels = list(zip(_levels(forest), _levels(old)))
    return [(x, y) for news, olds in levels[::-1] for x in news for y in olds]


def _match(x, y, old, forest):
    """Whether a pair matches."""
    return x == y and forest.value_of(x) == old.value_of(y)


def _largest_sets(old, forest):
    """Two dicts, by pairs, of largest sets that fit, as tuples in preorder.

    The first one has those in the subtrees of the two nodes, the second one those in the subtrees of the two nodes and
    of their elder siblings.
    """
    families = _families(forest)
    old_families = _families(old)
    elders = _elders(families)
    old_elders = _elders(old_families)
    inside = {}
    ending = {}
    for x, y in _pairs(old, forest):
        own = (x,) if _match(x, y, old, forest) else ()
        inside[(x, y)] = own + _longest_below(families[x], old_families[y], ending)
        before = ending.get((elders[x], old_elders[y]), ())
        ending[(x, y)] = max([before + inside[(x, y)], ending.get((elders[x], y), ()),
                              ending.get((x, old_elders[y]), ())], key=len)
    return inside, ending


def _longest_below(news, olds, ending):
    """The longest of the sets below two nodes, told by their children, or the longest of all, told by the roots."""
    return ending[(news[-1], olds[-1])] if news and olds else ()


def _is_kept(kept, old, forest):
    """Whether something has different names and fits."""
    if not isinstance(kept, tuple) or not all([_stays(name, old, forest) for name in kept]):
        return False
    lines = [[(forest.place_of(x), old.place_of(y)) for x, y in zip(_line(forest, name), _line(old, name))]
             for name in kept]
    return all([kept[at] != kept[place] and _fit(lines[at], lines[place])
                for place in range(len(kept)) for at in range(place)])


def _stays(name, old, forest):
    """Whether something is a node of the same level and the same value in both forests."""
    if name not in old or name not in forest:
        return False
    return old.level_of(name) == forest.level_of(name) and _match(name, name, old, forest)


def _fit(one, other):
    """Whether two nodes fit, told by the pairs of places on the lines down to them."""
    for (x, y), (x2, y2) in zip(one, other):
        if (x == x2) != (y == y2) or (x < x2) != (y < y2):
            return False
    return True


def _are_worths(pairs, old, forest, thing):
    """Whether no worth is less than the heights of the children of its nodes tell."""
    families = _families(forest)
    old_families = _families(old)
    for x, y in pairs:
        own = 1 if _match(x, y, old, forest) else 0
        below = [own + thing.heights[(child, one)] for child in families[x] for one in old_families[y]]
        if thing.worths[(x, y)] < max([own] + below):
            return False
    return True


def _are_heights(pairs, old, forest, thing):
    """Whether no height is less than its worth and the heights of the siblings before its nodes tell."""
    elders = _elders(_families(forest))
    old_elders = _elders(_families(old))
    heights = thing.heights
    for x, y in pairs:
        worth = thing.worths[(x, y)]
        least = [worth]
        if elders[x] is not None:
            least.append(heights[(elders[x], y)])
        if old_elders[y] is not None:
            least.append(heights[(x, old_elders[y])])
        if elders[x] is not None and old_elders[y] is not None:
            least.append(heights[(elders[x], old_elders[y])] + worth)
        if heights[(x, y)] < max(least):
            return False
    return True
