"""Axes: where they lead from some nodes of a forest, told by a flag for each place in preorder."""

OPPOSITE = {
    "self": "self", "parent": "child", "child": "parent", "ancestor": "descendant", "descendant": "ancestor",
    "previous": "next", "next": "previous", "preceding": "following", "following": "preceding",
}


class View:
    """What axes and tests ask of a table or a forest, by places: names, values, parents and ends of subtrees."""

    def __init__(self, table):
        self.order = table.names()
        self.worths = [table.value_of(name) for name in self.order]
        self.ends = [place + table.size_of(name) for place, name in enumerate(self.order)]
        places = {name: place for place, name in enumerate(self.order)}
        self.parents = [places.get(table.parent_of(name)) for name in self.order]


def is_axis(x):
    """Whether x is one of the nine words."""
    return isinstance(x, str) and x in OPPOSITE


def reached(view, axis, marks):
    """The flags of the nodes to which an axis leads from those that are marked."""
    lead = LEADS[axis]
    return lead(view, marks)


def _selves(view, marks):
    return list(marks)


def _parents(view, marks):
    found = [False for _ in marks]
    for place, parent in enumerate(view.parents):
        if marks[place] and parent is not None:
            found[parent] = True
    return found


def _children(view, marks):
    return [parent is not None and marks[parent] for parent in view.parents]


def _ancestors(view, marks):
    return [any(marks[place + 1:end]) for place, end in enumerate(view.ends)]


def _descendants(view, marks):
    found = []
    for parent in view.parents:
        # The parent stands before its children, so that it has its flag already.
        found.append(parent is not None and (marks[parent] or found[parent]))
    return found


def _previous(view, marks):
    found = _later(view.parents[::-1], marks[::-1])
    return found[::-1]


def _next(view, marks):
    return _later(view.parents, marks)


def _later(parents, marks):
    """The flags of those behind one that is marked and has the same parent."""
    found = []
    seen = {}
    for parent, mark in zip(parents, marks):
        found.append(parent in seen)
        if mark:
            seen[parent] = True
    return found


def _preceding(view, marks):
    last = max([place for place, mark in enumerate(marks) if mark], default=0)
    return [end <= last for end in view.ends]


def _following(view, marks):
    first = min([end for end, mark in zip(view.ends, marks) if mark], default=len(marks))
    return [place >= first for place in range(len(marks))]


# What leads along each axis.
LEADS = {
    "self": _selves,
    "parent": _parents,
    "child": _children,
    "ancestor": _ancestors,
    "descendant": _descendants,
    "previous": _previous,
    "next": _next,
    "preceding": _preceding,
    "following": _following,
}
