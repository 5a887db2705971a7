"""Tables with a row for each node and itself, and for each node and each of its ancestors."""

from forestrows.doing import done
from forestrows.errors import NoNode, NoPlace, NoTable, NoValue
from forestrows.forests import Forest
from forestrows.judging import judge_pairs
from forestrows.kinds import is_integer, is_name, is_value
from forestrows.tables import change_between


class PairTable:
    """A forest as pair rows (above, below, steps, rank, value), ascending as tuples."""

    def __init__(self, rows):
        fault = judge_pairs(rows)
        if fault is not None:
            raise NoTable(fault.place, fault.word)
        self._keep(rows)

    @classmethod
    def laid(cls, forest):
        """The table of a forest."""
        return cls(_rows_of(forest))

    def __len__(self):
        return len(self._order)

    def __contains__(self, x):
        # A name is asked for first, since not everything can be looked up in a dict.
        return is_name(x) and (x, x) in self._by_pair

    def __iter__(self):
        raise TypeError("a table cannot be iterated over")

    def __getitem__(self, at):
        return self._own(at)[4]

    def __setitem__(self, at, worth):
        name = self._own(at)[1]
        if not is_value(worth):
            raise NoValue(worth)
        self._keep([row[:4] + (worth,) if row[1] == name else row for row in self.rows])

    def forest(self):
        """The forest of the rows."""
        return Forest([(name, self.value_of(name), self.level_of(name)) for name in self._order])

    def become(self, forest):
        """Change the rows into those of a forest, and tell which are others now."""
        before = self._by_pair
        self._keep(_rows_of(forest))
        return change_between(before, self._by_pair)

    def apply(self, deed):
        """Do a deed, and tell which rows are others now."""
        return self.become(done(self.forest(), deed))

    def names(self):
        """All names in preorder."""
        return list(self._order)

    def roots(self):
        """The names of the roots, in order."""
        return [name for name in self._order if self.level_of(name) == 0]

    def parent_of(self, name):
        """The name of the parent, or None for a root."""
        above = self.ancestors_of(name)
        return above[-1] if above else None

    def children_of(self, name):
        """The names of the children, in order."""
        return [row[1] for row in self._below(name) if row[2] == 1]

    def rank_of(self, name):
        """The place of a node among the children of its parent, or among the roots."""
        return self._own(name)[3]

    def ancestors_of(self, name):
        """The names of the ancestors, from the root down to the parent."""
        self._own(name)
        return [row[0] for row in self._lines[name][:-1]]

    def descendants_of(self, name):
        """The names of the descendants in preorder."""
        return [row[1] for row in self._below(name)]

    def level_of(self, name):
        """The level of a node."""
        self._own(name)
        # The row of the root comes first.
        return self._lines[name][0][2]

    def size_of(self, name):
        """The number of nodes in the subtree of a node."""
        return 1 + len(self._below(name))

    def is_above(self, one, other):
        """Whether `one` is an ancestor of `other`."""
        self._own(one)
        self._own(other)
        return one != other and (one, other) in self._by_pair

    def meet_of(self, one, other):
        """The lowest node whose subtree has both, or None."""
        self._own(one)
        self._own(other)
        around = [row[0] for row in self._lines[one] if (row[0], other) in self._by_pair]
        return around[-1] if around else None

    def value_of(self, name):
        """The value of a node."""
        return self._own(name)[4]

    def total_of(self, name):
        """The sum of the values in the subtree of a node."""
        return self.value_of(name) + sum([row[4] for row in self._below(name)])

    def place_of(self, name):
        """The place of a node in preorder."""
        self._own(name)
        return self._order.index(name)

    def name_at(self, place):
        """The name at a place in preorder."""
        if not is_integer(place) or not 0 <= place < len(self._order):
            raise NoPlace(place)
        return self._order[place]

    def leaves(self):
        """The names of the nodes without children, in preorder."""
        return [name for name in self._order if not self._below(name)]

    def height(self):
        """The number of levels."""
        return max([row[2] + 1 for row in self.rows], default=0)

    def _keep(self, rows):
        """Keep right rows, in their order."""
        self.rows = tuple(sorted([tuple(row) for row in rows]))
        self._by_pair = {(row[0], row[1]): row for row in self.rows}
        self._lines = _lines_of(self.rows)
        # The ranks on the lines down to the nodes ascend in preorder.
        ranks = sorted([([row[3] for row in self._lines[name]], name) for name in self._lines])
        self._order = tuple([name for _, name in ranks])

    def _own(self, name):
        """The row of a node, which must be there, with itself."""
        if name not in self:
            raise NoNode(name)
        return self._by_pair[(name, name)]

    def _below(self, name):
        """The rows of a node with its descendants, in preorder."""
        self._own(name)
        return [self._by_pair[(name, other)] for other in self._order
                if other != name and (name, other) in self._by_pair]


def _rows_of(forest):
    """The pair rows of a forest."""
    ranks = {name: forest.rank_of(name) for name in forest}
    found = []
    for name, value, level in forest.rows:
        for place, above in enumerate(forest.ancestors_of(name) + [name]):
            found.append((above, name, level - place, ranks[above], value))
    return found


def _lines_of(rows):
    """For each node its rows with its ancestors, from the root down, and with itself."""
    found = {}
    for _, place in sorted([(row[2], place) for place, row in enumerate(rows)], reverse=True):
        row = rows[place]
        found.setdefault(row[1], []).append(row)
    return found
