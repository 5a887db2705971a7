"""Routes of steps from node to node, and tests of nodes.

The method `met` of a test tells for each place in preorder whether the node there meets it. So each part of a test is
looked at once for all nodes, however deep it stands. The classes that the interface names have their signs and their
call in themselves, since it wants them there.
"""

from forestrows.axes import OPPOSITE, View, is_axis, reached
from forestrows.errors import NoName, NoRoute, NoValue, TooLarge
from forestrows.kinds import is_name, is_sequence, is_value

GREATEST_SIZE = 60
MOST_STEPS = 20


class Test:
    """A test of nodes, to be called with a table or a forest and a name."""

    def __and__(self, other):
        return Both(self, other)

    def __or__(self, other):
        return Either(self, other)

    def __invert__(self):
        return Neither(self)

    def __call__(self, table, name):
        return _meets(self, table, name)


class NameIs(Test):
    """The node has this name."""

    def __init__(self, name):
        if not is_name(name):
            raise NoName(name)
        self.name = name
        self.size = 1

    def __and__(self, other):
        return Both(self, other)

    def __or__(self, other):
        return Either(self, other)

    def __invert__(self):
        return Neither(self)

    def __call__(self, table, name):
        return _meets(self, table, name)

    def met(self, view):
        """Where the test is met."""
        return [name == self.name for name in view.order]


class ValueIn(Test):
    """The value of the node is from `low` to `high`; None is no bound."""

    def __init__(self, low, high):
        for bound in (low, high):
            if bound is not None and not is_value(bound):
                raise NoValue(bound)
        self.low = low
        self.high = high
        self.size = 1

    def __and__(self, other):
        return Both(self, other)

    def __or__(self, other):
        return Either(self, other)

    def __invert__(self):
        return Neither(self)

    def __call__(self, table, name):
        return _meets(self, table, name)

    def met(self, view):
        """Where the test is met."""
        return [(self.low is None or self.low <= worth) and (self.high is None or worth <= self.high)
                for worth in view.worths]


class Has(Test):
    """The route leads from the node to some node."""

    def __init__(self, route):
        if not isinstance(route, Route):
            raise NoRoute(-1, "route")
        self.size = _checked_size(1 + sum([test.size for _, test in route.steps if test is not None]))
        self.route = route

    def __and__(self, other):
        return Both(self, other)

    def __or__(self, other):
        return Either(self, other)

    def __invert__(self):
        return Neither(self)

    def __call__(self, table, name):
        return _meets(self, table, name)

    def met(self, view):
        """Where the test is met."""
        # Going back from all nodes comes to those from which the route leads to one.
        marks = [True for _ in view.order]
        for axis, test in self.route.steps[::-1]:
            marks = reached(view, OPPOSITE[axis], _those_that_meet(test, view, marks))
        return marks


class Both(Test):
    """The node meets two tests."""

    def __init__(self, one, other):
        self.size = _checked_size(1 + one.size + other.size)
        self.one = one
        self.other = other

    def met(self, view):
        """Where the test is met."""
        return _those_that_meet(self.other, view, self.one.met(view))


class Either(Test):
    """The node meets one of two tests."""

    def __init__(self, one, other):
        self.size = _checked_size(1 + one.size + other.size)
        self.one = one
        self.other = other

    def met(self, view):
        """Where the test is met."""
        return [here or there for here, there in zip(self.one.met(view), self.other.met(view))]


class Neither(Test):
    """The node does not meet a test."""

    def __init__(self, one):
        self.size = _checked_size(1 + one.size)
        self.one = one

    def met(self, view):
        """Where the test is met."""
        return [not here for here in self.one.met(view)]


class Route:
    """Steps from nodes to nodes: pairs of an axis and a test, or None for no test."""

    def __init__(self, steps):
        if not is_sequence(steps) or len(steps) > MOST_STEPS:
            raise NoRoute(-1, "steps")
        for place, step in enumerate(steps):
            why = _wrong_word(step)
            if why is not None:
                raise NoRoute(place, why)
        self.steps = tuple([tuple(step) for step in steps])

    def __len__(self):
        return len(self.steps)


def ask(table, route, name):
    """The nodes to which a route leads from a node, in preorder."""
    if not isinstance(route, Route):
        raise NoRoute(-1, "route")
    start = table.place_of(name)
    view = View(table)
    marks = [place == start for place in range(len(view.order))]
    for axis, test in route.steps:
        marks = _those_that_meet(test, view, reached(view, axis, marks))
    return [one for one, mark in zip(view.order, marks) if mark]


def turned(route):
    """The route that leads back: from the nodes to which a route leads to those from which it leads there."""
    if not isinstance(route, Route):
        raise NoRoute(-1, "route")
    if len(route) == MOST_STEPS:
        raise NoRoute(-1, "many")
    # The way back begins with the test of the last node, and goes along each axis to the node before it, which has
    # to meet the test of the step before.
    axes = ["self"] + [OPPOSITE[axis] for axis, _ in route.steps[::-1]]
    tests = [test for _, test in route.steps[::-1]] + [None]
    return Route(list(zip(axes, tests)))


def _meets(test, table, name):
    """Whether a node meets a test."""
    place = table.place_of(name)
    return test.met(View(table))[place]


def _those_that_meet(test, view, marks):
    """The flags of those marked nodes that meet a test, or of all of them if it is None."""
    if test is None:
        return marks
    return [mark and met for mark, met in zip(marks, test.met(view))]


def _checked_size(size):
    """The size of a test, which must not be too large."""
    if size > GREATEST_SIZE:
        raise TooLarge(size)
    return size


def _wrong_word(step):
    """The first word of NoRoute that applies to a step, or None."""
    if not is_sequence(step) or len(step) != 2:
        return "step"
    axis, test = step
    if not is_axis(axis):
        return "axis"
    if test is not None and not isinstance(test, Test):
        return "test"
    return None
