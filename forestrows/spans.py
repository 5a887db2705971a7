"""Tables with two numbers for each node, between which those of its descendants lie."""

from forestrows.doing import done
from forestrows.errors import Full, NoBound, NoNode, NoPlace, NoTable, NoValue
from forestrows.forests import Forest
from forestrows.judging import judge_spans, walk_spans
from forestrows.keeping import kept_names
from forestrows.kinds import is_bound, is_integer, is_name, is_value
from forestrows.spacing import laid_rows, spaced_rows
from forestrows.tables import change_between


class Span:
    """A span from one number to another one."""

    def __init__(self, left, right):
        self.left = left
        self.right = right

    def __eq__(self, other):
        return isinstance(other, Span) and self.left == other.left and self.right == other.right

    def __contains__(self, x):
        return isinstance(x, Span) and self.left < x.left and x.right < self.right

    def __lshift__(self, other):
        if not isinstance(other, Span):
            return NotImplemented
        return self.right < other.left


class SpanTable:
    """A forest as span rows (name, value, left, right), ascending by `left`, below a bound."""

    def __init__(self, rows, most):
        fault = judge_spans(rows, most)
        if fault is not None:
            raise NoTable(fault.place, fault.word)
        self._most = most
        self._keep(rows)

    @classmethod
    def laid(cls, forest, *, most):
        """The table of a forest whose numbers are spread evenly."""
        if not is_bound(most):
            raise NoBound(most)
        needed = 2 * len(forest)
        if needed > most:
            raise Full(needed)
        return cls(laid_rows(forest, most), most)

    def __len__(self):
        return len(self.rows)

    def __contains__(self, x):
        # A name is asked for first, since not everything can be looked up in a dict.
        return is_name(x) and x in self._places

    def __iter__(self):
        raise TypeError("a table cannot be iterated over")

    def __getitem__(self, at):
        return self.rows[self._place(at)][1]

    def __setitem__(self, at, worth):
        place = self._place(at)
        if not is_value(worth):
            raise NoValue(worth)
        name, _, left, right = self.rows[place]
        self.rows = self.rows[:place] + ((name, worth, left, right),) + self.rows[place + 1:]

    @property
    def limit(self):
        """The bound."""
        return self._most

    def set_bound(self, bound):
        """Set the bound, and change as few rows as possible for it."""
        if not is_bound(bound):
            raise NoBound(bound)
        self._change(self.forest(), bound)
        self._most = bound

    def forest(self):
        """The forest of the rows."""
        # The rows stand in preorder, too.
        levels = [level for level, _ in walk_spans(self.rows)]
        return Forest([(row[0], row[1], level) for row, level in zip(self.rows, levels)])

    def span_of(self, name):
        """The span of a node."""
        row = self._row(name)
        return Span(row[2], row[3])

    def become(self, forest):
        """Change as few rows as possible into right rows of a forest, and tell which."""
        return self._change(forest, self._most)

    def apply(self, deed):
        """Do a deed, and change as few rows as possible for it."""
        return self.become(done(self.forest(), deed))

    def names(self):
        """All names in preorder."""
        return [row[0] for row in self.rows]

    def roots(self):
        """The names of the roots, in order."""
        return _outermost(self.rows)

    def parent_of(self, name):
        """The name of the parent, or None for a root."""
        above = self.ancestors_of(name)
        return above[-1] if above else None

    def children_of(self, name):
        """The names of the children, in order."""
        return _outermost(self._below(name))

    def rank_of(self, name):
        """The place of a node among the children of its parent, or among the roots."""
        parent = self.parent_of(name)
        siblings = self.roots() if parent is None else self.children_of(parent)
        return siblings.index(name)

    def ancestors_of(self, name):
        """The names of the ancestors, from the root down to the parent."""
        place = self._place(name)
        right = self.rows[place][3]
        return [row[0] for row in self.rows[:place] if right < row[3]]

    def descendants_of(self, name):
        """The names of the descendants in preorder."""
        return [row[0] for row in self._below(name)]

    def level_of(self, name):
        """The level of a node."""
        return len(self.ancestors_of(name))

    def size_of(self, name):
        """The number of nodes in the subtree of a node."""
        return 1 + len(self._below(name))

    def is_above(self, one, other):
        """Whether `one` is an ancestor of `other`."""
        upper = self._row(one)
        lower = self._row(other)
        return upper[2] < lower[2] and lower[3] < upper[3]

    def meet_of(self, one, other):
        """The lowest node whose subtree has both, or None."""
        here = self._row(one)
        there = self._row(other)
        left = min(here[2], there[2])
        right = max(here[3], there[3])
        around = [row[0] for row in self.rows if row[2] <= left and right <= row[3]]
        return around[-1] if around else None

    def value_of(self, name):
        """The value of a node."""
        return self._row(name)[1]

    def total_of(self, name):
        """The sum of the values in the subtree of a node."""
        return self.value_of(name) + sum([row[1] for row in self._below(name)])

    def place_of(self, name):
        """The place of a node in preorder."""
        return self._place(name)

    def name_at(self, place):
        """The name at a place in preorder."""
        if not is_integer(place) or not 0 <= place < len(self.rows):
            raise NoPlace(place)
        return self.rows[place][0]

    def leaves(self):
        """The names of the nodes without children, in preorder."""
        return [row[0] for row in self.rows if not self._below(row[0])]

    def height(self):
        """The number of levels."""
        return max([level + 1 for level, _ in walk_spans(self.rows)], default=0)

    def _keep(self, rows):
        """Keep right rows, in their order."""
        lefts = sorted([(row[2], place) for place, row in enumerate(rows)])
        self.rows = tuple([tuple(rows[place]) for _, place in lefts])
        self._places = {row[0]: place for place, row in enumerate(self.rows)}

    def _change(self, forest, most):
        """Change the rows into right rows of a forest below a bound."""
        before = {row[0]: row for row in self.rows}
        kept = {name: before[name] for name in kept_names(self.rows, forest, most)}
        rows = spaced_rows(forest, kept, most)
        self._keep(rows)
        return change_between(before, {row[0]: row for row in rows})

    def _place(self, name):
        """The place of the row of a name, which must be there."""
        if name not in self:
            raise NoNode(name)
        return self._places[name]

    def _row(self, name):
        """The row of a name, which must be there."""
        return self.rows[self._place(name)]

    def _below(self, name):
        """The rows of the descendants, in preorder."""
        place = self._place(name)
        right = self.rows[place][3]
        return [row for row in self.rows[place + 1:] if row[2] < right]


def _outermost(rows):
    """The names of those of some ascending rows that lie in no other one of them."""
    found = []
    end = -1
    for row in rows:
        if row[2] > end:
            found.append(row[0])
            end = row[3]
    return found
