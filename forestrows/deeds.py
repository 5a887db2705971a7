"""Deeds: what can be done to a forest, as plain objects that keep what they are given."""


class Put:
    """A new node without children becomes the child number `rank` of `parent`."""

    def __init__(self, name, value, parent, rank):
        self.name = name
        self.value = value
        self.parent = parent
        self.rank = rank

    def __eq__(self, other):
        return (isinstance(other, Put) and self.name == other.name and self.value == other.value
                and self.parent == other.parent and self.rank == other.rank)


class Move:
    """The subtree of `name` is taken out and becomes the child number `rank` of `parent`."""

    def __init__(self, name, parent, rank):
        self.name = name
        self.parent = parent
        self.rank = rank

    def __eq__(self, other):
        return (isinstance(other, Move) and self.name == other.name
                and self.parent == other.parent and self.rank == other.rank)


class Cut:
    """The subtree of `name` is removed."""

    def __init__(self, name):
        self.name = name

    def __eq__(self, other):
        return isinstance(other, Cut) and self.name == other.name


class Lift:
    """The node is removed; its children take its place."""

    def __init__(self, name):
        self.name = name

    def __eq__(self, other):
        return isinstance(other, Lift) and self.name == other.name


class Wrap:
    """A new node takes the children of `parent` from number `first` to below number `last`."""

    def __init__(self, name, value, parent, first, last):
        self.name = name
        self.value = value
        self.parent = parent
        self.first = first
        self.last = last

    def __eq__(self, other):
        return (isinstance(other, Wrap) and self.name == other.name and self.value == other.value
                and self.parent == other.parent and self.first == other.first and self.last == other.last)


class Reverse:
    """The children of `parent` stand in the opposite order."""

    def __init__(self, parent):
        self.parent = parent

    def __eq__(self, other):
        return isinstance(other, Reverse) and self.parent == other.parent


class SetValue:
    """The node has this value."""

    def __init__(self, name, value):
        self.name = name
        self.value = value

    def __eq__(self, other):
        return isinstance(other, SetValue) and self.name == other.name and self.value == other.value
