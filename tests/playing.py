"""A second way to do deeds, on nodes that hold one another; all deeds, histories of deeds, and all answers."""

import random

from forestrows.deeds import Cut, Lift, Move, Put, Reverse, SetValue, Wrap
from forestrows.forests import Forest

OF_ONE = ("parent_of", "children_of", "rank_of", "ancestors_of", "descendants_of", "level_of", "size_of",
          "value_of", "total_of", "place_of")
OF_TWO = ("is_above", "meet_of")
OF_ALL = ("names", "roots", "leaves", "height")


def planted(rows):
    """The roots as lists [name, value, children]."""
    roots = []
    lists = [roots]
    for name, value, level in rows:
        node = [name, value, []]
        lists[level].append(node)
        lists[level + 1:] = [node[2]]
    return roots


def rows_from(nodes, level=0):
    """The rows of nodes of one parent and of all below them."""
    return [row for name, value, children in nodes
            for row in [(name, value, level), *rows_from(children, level + 1)]]


def list_with(nodes, name):
    """The list of siblings in which a node stands, and its place there."""
    for place, node in enumerate(nodes):
        if node[0] == name:
            return nodes, place
        if found := list_with(node[2], name):
            return found
    return None


def children_list(roots, parent):
    """The list of the children of a parent, or the roots for None."""
    if parent is None:
        return roots
    siblings, place = list_with(roots, parent)
    return siblings[place][2]


def performed(rows, deed):
    """The rows behind a deed that can be done."""
    roots = planted(rows)
    if isinstance(deed, Put):
        children_list(roots, deed.parent).insert(deed.rank, [deed.name, deed.value, []])
    elif isinstance(deed, Move):
        siblings, place = list_with(roots, deed.name)
        node = siblings.pop(place)
        children_list(roots, deed.parent).insert(deed.rank, node)
    elif isinstance(deed, Wrap):
        siblings = children_list(roots, deed.parent)
        siblings[deed.first:deed.last] = [[deed.name, deed.value, siblings[deed.first:deed.last]]]
    elif isinstance(deed, Reverse):
        children_list(roots, deed.parent).reverse()
    else:
        siblings, place = list_with(roots, deed.name)
        if isinstance(deed, SetValue):
            siblings[place][1] = deed.value
        else:
            siblings[place:place + 1] = siblings[place][2] if isinstance(deed, Lift) else []
    return tuple(rows_from(roots))


def all_deeds(rows):
    """All deeds that can be done, but for names and values of new nodes; a 61st node is not looked at."""
    roots = planted(rows)
    names = [row[0] for row in rows]
    parents = [None, *names]
    counts = {parent: len(children_list(roots, parent)) for parent in parents}
    found = [Put("new", 7, parent, rank) for parent in parents for rank in range(counts[parent] + 1)]
    found += [Wrap("new", 7, parent, first, last) for parent in parents
              for last in range(counts[parent] + 1) for first in range(last)]
    for name in names:
        found += [Cut(name), Lift(name), SetValue(name, -7), SetValue(name, 0)]
        siblings, place = list_with(roots, name)
        below = [row[0] for row in rows_from([siblings[place]])]
        for parent in parents:
            if parent not in below:
                own = children_list(roots, parent) is siblings
                found += [Move(name, parent, rank) for rank in range(counts[parent] + (0 if own else 1))]
    return found + [Reverse(parent) for parent in parents]


def some_deed(rng, forest, fresh):
    """A deed that can be done; `fresh` is a name that is not there."""
    parents = [None, *forest.names()]
    parent = rng.choice(parents)
    count = len(forest.roots() if parent is None else forest.children_of(parent))
    kinds = ["put"] * (3 if len(forest) < 60 else 0)
    kinds += ["move", "move", "cut", "lift", "set"] if len(forest) > 0 else []
    kinds += ["wrap"] if count > 0 and len(forest) < 60 else []
    kind = rng.choice([*kinds, "reverse"])
    value = rng.choice([0, 1, -1, 10 ** 30, -10 ** 30, rng.randrange(100)])
    if kind == "put":
        return Put(fresh, value, parent, rng.randrange(count + 1))
    if kind == "wrap":
        first = rng.randrange(count)
        return Wrap(fresh, value, parent, first, rng.randrange(first + 1, count + 1))
    if kind == "reverse":
        return Reverse(parent)
    name = rng.choice(forest.names())
    if kind == "set":
        return SetValue(name, value)
    if kind == "lift":
        return Lift(name)
    if kind == "cut":
        # Mostly leaves, lest the forests stay small.
        return Cut(rng.choice(forest.leaves()) if rng.randrange(8) else name)
    return some_move(rng, forest, name)


def some_move(rng, forest, name):
    """A move of the subtree of a node, to anywhere."""
    parent = rng.choice([None, *[one for one in forest.names() if one != name and not forest.is_above(name, one)]])
    children = forest.roots() if parent is None else forest.children_of(parent)
    return Move(name, parent, rng.randrange(len([one for one in children if one != name]) + 1))


def history(seed, count, rows=()):
    """Deeds that can be done one after the other, with the rows ahead of and behind each, by the second way."""
    rng = random.Random(seed)
    rows = tuple(rows)
    found = []
    for place in range(count):
        deed = some_deed(rng, Forest(rows), f"m{place}")
        behind = performed(rows, deed)
        found.append((rows, deed, behind))
        rows = behind
    return found


def answers(thing, pairs=True):
    """The answers to all questions, of a forest or a table."""
    names = thing.names()
    found = {question: getattr(thing, question)() for question in OF_ALL}
    for question in OF_ONE:
        found[question] = [getattr(thing, question)(name) for name in names]
    found["name_at"] = [thing.name_at(place) for place in range(len(thing))]
    found["in"] = [name in thing for name in [*names, "other", "m0"]]
    for question in OF_TWO if pairs else ():
        found[question] = [getattr(thing, question)(one, other) for one in names for other in names]
    return found
