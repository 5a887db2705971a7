"""What deeds do to forests, and which deeds lead back."""

from forestrows.deeds import Cut, Lift, Move, Put, Reverse, SetValue, Wrap
from forestrows.errors import NoDeed, NoDeeds
from forestrows.forests import Forest
from forestrows.kinds import is_integer, is_name, is_sequence, is_value


def done(forest, deed):
    """The forest behind a deed."""
    why = _wrong_word(forest, deed)
    if why is not None:
        raise NoDeed(why)
    return Forest(_rows_behind(forest, deed))


def played(forest, deeds):
    """The forests behind the first 0, 1, 2, .. deeds."""
    if not is_sequence(deeds):
        raise NoDeeds(-1, "deeds")
    forests = [forest]
    for place, deed in enumerate(deeds):
        why = _wrong_word(forests[-1], deed)
        if why is not None:
            raise NoDeeds(place, why)
        forests.append(Forest(_rows_behind(forests[-1], deed)))
    return forests


def undoing(forest, deed):
    """Deeds that lead from done(forest, deed) back to the forest."""
    why = _wrong_word(forest, deed)
    if why is not None:
        raise NoDeed(why)
    if isinstance(deed, Put):
        return [Cut(deed.name)]
    if isinstance(deed, Wrap):
        return [Lift(deed.name)]
    if isinstance(deed, Reverse):
        return [Reverse(deed.parent)]
    if isinstance(deed, SetValue):
        return [SetValue(deed.name, forest.value_of(deed.name))]
    if isinstance(deed, Move):
        return [Move(deed.name, forest.parent_of(deed.name), forest.rank_of(deed.name))]
    if isinstance(deed, Cut):
        return [_put_again(forest, name) for name in [deed.name] + forest.descendants_of(deed.name)]
    return [_unlift(forest, deed.name)]


def _put_again(forest, name):
    """The deed that puts a node where it is, once the nodes before it are there."""
    return Put(name, forest.value_of(name), forest.parent_of(name), forest.rank_of(name))


def _unlift(forest, name):
    """The deed that leads back behind the lift of a node."""
    count = len(forest.children_of(name))
    if count == 0:
        # A wrap takes at least one child.
        return _put_again(forest, name)
    first = forest.rank_of(name)
    return Wrap(name, forest.value_of(name), forest.parent_of(name), first, first + count)


def _wrong_word(forest, deed):
    """The first word of NoDeed that applies to a deed, or None."""
    makes = isinstance(deed, (Put, Wrap))
    if not isinstance(deed, (Put, Move, Cut, Lift, Wrap, Reverse, SetValue)):
        return "deed"
    if makes and not is_name(deed.name):
        return "name"
    if isinstance(deed, (Put, Wrap, SetValue)) and not is_value(deed.value):
        return "value"
    if not _has_nodes(forest, deed):
        return "node"
    if makes and deed.name in forest:
        return "taken"
    if isinstance(deed, Move) and _is_within(forest, deed.parent, deed.name):
        return "below"
    if not _has_ranks(forest, deed):
        return "rank"
    if makes and len(forest) >= Forest.MOST:
        return "many"
    return None


def _has_nodes(forest, deed):
    """Whether the nodes that a deed needs are there."""
    if isinstance(deed, (Move, Cut, Lift, SetValue)) and deed.name not in forest:
        return False
    if isinstance(deed, (Put, Move, Wrap, Reverse)):
        return deed.parent is None or deed.parent in forest
    return True


def _is_within(forest, parent, name):
    """Whether a parent, which may be None, is in the subtree of a node."""
    return parent is not None and (parent == name or forest.is_above(name, parent))


def _has_ranks(forest, deed):
    """Whether the ranks of a deed are such that it can be done."""
    if isinstance(deed, Wrap):
        if not is_integer(deed.first) or not is_integer(deed.last):
            return False
        return 0 <= deed.first < deed.last <= len(_children(forest, deed.parent))
    if isinstance(deed, (Put, Move)):
        # A moved node is not counted among the children of its new parent.
        others = [name for name in _children(forest, deed.parent) if name != deed.name]
        return is_integer(deed.rank) and 0 <= deed.rank <= len(others)
    return True


def _rows_behind(forest, deed):
    """The rows of the forest behind a deed that can be done."""
    if isinstance(deed, Put):
        return _put(forest, deed)
    if isinstance(deed, Move):
        return _moved(forest, deed)
    if isinstance(deed, Cut):
        return _without(forest, deed.name)
    if isinstance(deed, Lift):
        return _lifted(forest, deed.name)
    if isinstance(deed, Wrap):
        return _wrapped(forest, deed)
    if isinstance(deed, Reverse):
        return _reversed_rows(forest, deed.parent)
    return _with_value(forest, deed)


def _put(forest, deed):
    at = _place_for(forest, deed.parent, deed.rank)
    row = (deed.name, deed.value, _level_below(forest, deed.parent))
    return forest.rows[:at] + (row,) + forest.rows[at:]


def _moved(forest, deed):
    part = _subtree(forest, deed.name)
    rest = Forest(_without(forest, deed.name))
    at = _place_for(rest, deed.parent, deed.rank)
    deeper = _level_below(rest, deed.parent) - forest.level_of(deed.name)
    return rest.rows[:at] + _sunk(part, deeper) + rest.rows[at:]


def _without(forest, name):
    start = forest.place_of(name)
    return forest.rows[:start] + forest.rows[start + forest.size_of(name):]


def _lifted(forest, name):
    start = forest.place_of(name)
    below = _subtree(forest, name)[1:]
    return forest.rows[:start] + _sunk(below, -1) + forest.rows[start + 1 + len(below):]


def _wrapped(forest, deed):
    start = _place_for(forest, deed.parent, deed.first)
    end = _place_for(forest, deed.parent, deed.last)
    row = (deed.name, deed.value, _level_below(forest, deed.parent))
    return forest.rows[:start] + (row,) + _sunk(forest.rows[start:end], 1) + forest.rows[end:]


def _reversed_rows(forest, parent):
    children = _children(forest, parent)
    start = _place_for(forest, parent, 0)
    end = _place_for(forest, parent, len(children))
    turned = [row for name in children[::-1] for row in _subtree(forest, name)]
    return forest.rows[:start] + tuple(turned) + forest.rows[end:]


def _with_value(forest, deed):
    at = forest.place_of(deed.name)
    row = (deed.name, deed.value, forest.level_of(deed.name))
    return forest.rows[:at] + (row,) + forest.rows[at + 1:]


def _children(forest, parent):
    """The children of a parent, or the roots for None."""
    return forest.roots() if parent is None else forest.children_of(parent)


def _level_below(forest, parent):
    """The level of the children of a parent, which may be None."""
    return 0 if parent is None else forest.level_of(parent) + 1


def _place_for(forest, parent, rank):
    """The place at which the child number `rank` of a parent begins, or would begin."""
    children = _children(forest, parent)
    if rank < len(children):
        return forest.place_of(children[rank])
    if parent is None:
        return len(forest)
    return forest.place_of(parent) + forest.size_of(parent)


def _subtree(forest, name):
    """The rows of the subtree of a node."""
    start = forest.place_of(name)
    return forest.rows[start:start + forest.size_of(name)]


def _sunk(rows, deeper):
    """Rows with levels that are greater by so many."""
    return tuple([(name, value, level + deeper) for name, value, level in rows])
