"""The errors of the package, each told by one short text."""


class ForestError(ValueError):
    """The base of all errors of the package."""

    def told(self):
        return "refused foresterror"


class NoName(ForestError):
    """Something is no name."""

    def __init__(self, name):
        self.name = name

    def told(self):
        return "refused noname"


class NoValue(ForestError):
    """Something is no value."""

    def __init__(self, value):
        self.value = value

    def told(self):
        return "refused novalue"


class NoForest(ForestError):
    """Rows are not those of a forest: the place of the first wrong row, and what is wrong."""

    def __init__(self, place, why):
        self.place = place
        self.why = why

    def told(self):
        return "refused noforest"


class Twice(ForestError):
    """Two forests that are joined both have this name."""

    def __init__(self, name):
        self.name = name

    def told(self):
        return "refused twice"


class NoNode(ForestError):
    """Something is not the name of a node."""

    def __init__(self, name):
        self.name = name

    def told(self):
        return "refused nonode"


class NoPlace(ForestError):
    """Something is not the place of a node."""

    def __init__(self, place):
        self.place = place

    def told(self):
        return "refused noplace"


class NoDeed(ForestError):
    """A deed cannot be done."""

    def __init__(self, why):
        self.why = why

    def told(self):
        return "refused nodeed"


class NoDeeds(ForestError):
    """Deeds cannot be done: the place of the first such deed, and why."""

    def __init__(self, place, why):
        self.place = place
        self.why = why

    def told(self):
        return "refused nodeeds"


class NoBound(ForestError):
    """Something is no bound."""

    def __init__(self, most):
        self.most = most

    def told(self):
        return "refused nobound"


class Full(ForestError):
    """The bound is less than the count of numbers that are needed."""

    def __init__(self, needed):
        self.needed = needed

    def told(self):
        return "refused full"


class NoTable(ForestError):
    """Rows are not those of a table: the place of the fault, and its word."""

    def __init__(self, place, why):
        self.place = place
        self.why = why

    def told(self):
        return "refused notable"


class NoCount(ForestError):
    """Something is no count of free numbers."""

    def __init__(self, free):
        self.free = free

    def told(self):
        return "refused nocount"


class NoKey(ForestError):
    """Something is no key, from this place on."""

    def __init__(self, place):
        self.place = place

    def told(self):
        return "refused nokey"


class NoLabel(ForestError):
    """What was given has no labels between."""

    def __init__(self, word):
        self.word = word

    def told(self):
        return "refused nolabel"


class NoRoute(ForestError):
    """Something is no route: the place of the first wrong step, and what is wrong."""

    def __init__(self, place, why):
        self.place = place
        self.why = why

    def told(self):
        return "refused noroute"


class TooLarge(ForestError):
    """A test would have this size."""

    def __init__(self, size):
        self.size = size

    def told(self):
        return "refused toolarge"


class NoSpans(ForestError):
    """Pairs are no spans: the place of the first that is none."""

    def __init__(self, place):
        self.place = place

    def told(self):
        return "refused nospans"


class NoBack(ForestError):
    """There is nothing to undo or to redo."""

    def told(self):
        return "refused noback"


class NoMark(ForestError):
    """There is no mark of this name, or its place is lost."""

    def __init__(self, name):
        self.name = name

    def told(self):
        return "refused nomark"


class BadText(ForestError):
    """A text cannot be read, from this place on."""

    def __init__(self, place):
        self.place = place

    def told(self):
        return "refused badtext"
