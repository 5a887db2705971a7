"""Tables with a byte string for each node, which begins with that of its parent."""

from forestrows.doing import done
from forestrows.errors import NoNode, NoPlace, NoTable, NoValue
from forestrows.forests import Forest
from forestrows.judging import judge_keys
from forestrows.kinds import is_integer, is_name, is_value
from forestrows.labelling import labelled_rows
from forestrows.labels import split_key
from forestrows.matching import taken_from
from forestrows.tables import change_between


class KeyTable:
    """A forest as key rows (name, value, key), ascending by keys."""

    def __init__(self, rows):
        fault = judge_keys(rows)
        if fault is not None:
            raise NoTable(fault.place, fault.word)
        self._keep(rows)

    @classmethod
    def laid(cls, forest):
        """The table of a forest with the first labels that there are."""
        return cls(labelled_rows(forest, {}))

    def __len__(self):
        return len(self.rows)

    def __contains__(self, x):
        # A name is asked for first, since not everything can be looked up in a dict.
        return is_name(x) and x in self._places

    def __iter__(self):
        raise TypeError("a table cannot be iterated over")

    def __getitem__(self, at):
        return self.rows[self._place(at)][1]

    def __setitem__(self, at, worth):
        place = self._place(at)
        if not is_value(worth):
            raise NoValue(worth)
        name, _, key = self.rows[place]
        self.rows = self.rows[:place] + ((name, worth, key),) + self.rows[place + 1:]

    def forest(self):
        """The forest of the rows."""
        # The rows stand in preorder, too.
        return Forest([(name, value, self.level_of(name)) for name, value, _ in self.rows])

    def key_of(self, name):
        """The key of a node."""
        return self.rows[self._place(name)][2]

    def become(self, forest):
        """Change as few rows as possible into right rows of a forest, and tell which."""
        before = {row[0]: row for row in self.rows}
        taken = taken_from(self.forest(), forest)
        rows = labelled_rows(forest, {name: split_key(before[taken[name]][2])[-1] for name in taken})
        self._keep(rows)
        return change_between(before, {row[0]: row for row in rows})

    def apply(self, deed):
        """Do a deed, and change as few rows as possible for it."""
        return self.become(done(self.forest(), deed))

    def names(self):
        """All names in preorder."""
        return [row[0] for row in self.rows]

    def roots(self):
        """The names of the roots, in order."""
        return _outermost(self.rows)

    def parent_of(self, name):
        """The name of the parent, or None for a root."""
        above = self.ancestors_of(name)
        return above[-1] if above else None

    def children_of(self, name):
        """The names of the children, in order."""
        return _outermost(self._below(name))

    def rank_of(self, name):
        """The place of a node among the children of its parent, or among the roots."""
        parent = self.parent_of(name)
        siblings = self.roots() if parent is None else self.children_of(parent)
        return siblings.index(name)

    def ancestors_of(self, name):
        """The names of the ancestors, from the root down to the parent."""
        place = self._place(name)
        key = self.rows[place][2]
        return [row[0] for row in self.rows[:place] if key.startswith(row[2])]

    def descendants_of(self, name):
        """The names of the descendants in preorder."""
        return [row[0] for row in self._below(name)]

    def level_of(self, name):
        """The level of a node."""
        return len(self.ancestors_of(name))

    def size_of(self, name):
        """The number of nodes in the subtree of a node."""
        return 1 + len(self._below(name))

    def is_above(self, one, other):
        """Whether `one` is an ancestor of `other`."""
        upper = self.key_of(one)
        lower = self.key_of(other)
        return upper != lower and lower.startswith(upper)

    def meet_of(self, one, other):
        """The lowest node whose subtree has both, or None."""
        here = self.key_of(one)
        there = self.key_of(other)
        around = [row[0] for row in self.rows if here.startswith(row[2]) and there.startswith(row[2])]
        return around[-1] if around else None

    def value_of(self, name):
        """The value of a node."""
        return self.rows[self._place(name)][1]

    def total_of(self, name):
        """The sum of the values in the subtree of a node."""
        return self.value_of(name) + sum([row[1] for row in self._below(name)])

    def place_of(self, name):
        """The place of a node in preorder."""
        return self._place(name)

    def name_at(self, place):
        """The name at a place in preorder."""
        if not is_integer(place) or not 0 <= place < len(self.rows):
            raise NoPlace(place)
        return self.rows[place][0]

    def leaves(self):
        """The names of the nodes without children, in preorder."""
        return [row[0] for row in self.rows if not self._below(row[0])]

    def height(self):
        """The number of levels."""
        return max([self.level_of(row[0]) + 1 for row in self.rows], default=0)

    def _keep(self, rows):
        """Keep right rows, in the order of their keys."""
        by_key = sorted([(row[2], place) for place, row in enumerate(rows)])
        self.rows = tuple([tuple(rows[place]) for _, place in by_key])
        self._places = {row[0]: place for place, row in enumerate(self.rows)}

    def _place(self, name):
        """The place of the row of a name, which must be there."""
        if name not in self:
            raise NoNode(name)
        return self._places[name]

    def _below(self, name):
        """The rows of the descendants, in preorder."""
        place = self._place(name)
        key = self.rows[place][2]
        return [row for row in self.rows[place + 1:] if row[2].startswith(key)]


def _outermost(rows):
    """The names of those of some ascending rows whose keys begin with that of no other one of them."""
    found = []
    outer = None
    for row in rows:
        if outer is None or not row[2].startswith(outer):
            found.append(row[0])
            outer = row[2]
    return found
