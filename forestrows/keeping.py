"""Which span rows can be kept when a table becomes another forest, and certificates of that.

A candidate is told by a tuple (begin, end, first, last): the positions of its ends in the new forest, and their
shifts.
"""

from forestrows.errors import Full
from forestrows.kinds import has_integers, is_name
from forestrows.spacing import ends_of
from forestrows.tables import Certificate


def span_certificate(table, forest):
    """A largest set of nodes that can keep their rows, and the numbers that show that it is one."""
    found = _candidates(table.rows, forest, table.limit)
    inside, ending = _largest_sets(found)
    worths = {name: len(inside[name]) for name in inside}
    heights = {key: len(ending[key]) for key in ending}
    return Certificate(_longest_at(None, found, ending), worths, heights)


def check_spans(table, forest, thing):
    """Whether something is a certificate for this table and this forest."""
    found = _candidates(table.rows, forest, table.limit)
    if not isinstance(thing, Certificate) or not _is_kept(thing.kept, found):
        return False
    if not has_integers(thing.worths, list(found)):
        return False
    boxes = _boxes(found)
    if not has_integers(thing.heights, [(box, name) for box in boxes for name in boxes[box]]):
        return False
    if not all([thing.heights[(None, name)] <= len(thing.kept) for name in found]):
        return False
    return all([_is_proved(box, boxes[box], found, thing) for box in boxes])


def kept_names(rows, forest, most):
    """The names of a largest set of nodes of a forest that can keep these span rows below a bound."""
    found = _candidates(rows, forest, most)
    return _longest_at(None, found, _largest_sets(found)[1])


def _candidates(rows, forest, most):
    """The candidates, in preorder, as a dict of tuples (begin, end, first, last)."""
    needed = 2 * len(forest)
    if needed > most:
        raise Full(needed)
    before = {row[0]: row for row in rows}
    ends = ends_of(forest)
    found = {}
    for name, value, _ in forest.rows:
        if name in before and before[name][1] == value:
            begin, end = ends[name]
            first = before[name][2] - begin
            last = before[name][3] - end
            if 0 <= first <= last <= most - needed:
                found[name] = (begin, end, first, last)
    return found


def _holds(box, one):
    """Whether one candidate is an ancestor of another one and fits it."""
    return box[0] < one[0] and one[1] < box[1] and box[2] <= one[2] and one[3] <= box[3]


def _precedes(one, other):
    """Whether the subtree of one candidate ends before that of another one begins, and they fit."""
    return one[1] < other[0] and one[3] <= other[2]


def _fit(one, other):
    """Whether two candidates are different and fit."""
    return _holds(one, other) or _holds(other, one) or _precedes(one, other) or _precedes(other, one)


def _boxes(found):
    """The names with heights for each box, in preorder."""
    boxes = {box: [name for name in found if _holds(found[box], found[name])] for box in found}
    boxes[None] = list(found)
    return boxes


def _largest_sets(found):
    """Two dicts of largest sets that fit, as tuples in preorder.

    By name: those in the subtree of the node that have the node itself. By (box, name): those below the box,
    whose outermost nodes end with the node of this name.
    """
    boxes = _boxes(found)
    inside = {}
    ending = {}
    # Descendants come ahead of their ancestors, and all of them ahead of None.
    for box in list(found)[::-1] + [None]:
        for name in boxes[box]:
            # What precedes a node stands before it in preorder, so that it has its set already.
            before = [ending[(box, one)] for one in boxes[box] if _precedes(found[one], found[name])]
            ending[(box, name)] = max(before, key=len, default=()) + inside[name]
        if box is not None:
            inside[box] = (box,) + _longest_at(box, boxes[box], ending)
    return inside, ending


def _longest_at(box, names, ending):
    """The longest of the sets below a box."""
    return max([ending[(box, name)] for name in names], key=len, default=())


def _is_kept(kept, found):
    """Whether something has different candidates, any two of which fit."""
    if not isinstance(kept, tuple):
        return False
    # A name is asked for first, since not everything can be looked up in a dict.
    if not all([is_name(name) and name in found for name in kept]):
        return False
    # A candidate does not fit itself, so that different ones are asked for, too.
    return all([_fit(found[name], found[other])
                for place, name in enumerate(kept) for other in kept[:place]])


def _is_proved(box, names, found, thing):
    """Whether the worths and heights below a box are such that no set there is larger than they tell."""
    heights = {name: thing.heights[(box, name)] for name in names}
    if not all([heights[name] >= thing.worths[name] for name in names]):
        return False
    if box is not None and thing.worths[box] < max([1] + [1 + heights[name] for name in names]):
        return False
    return all([heights[other] >= heights[name] + thing.worths[other]
                for name in names for other in names if _precedes(found[name], found[other])])
