"""Forests: rows of named nodes in preorder, and the questions that they answer."""

from forestrows.errors import NoForest, NoNode, NoPlace, Twice
from forestrows.kinds import is_integer, is_name, is_sequence, is_value


def _wrong_word(row, deepest, earlier):
    """The first word of NoForest that applies to a row, or None."""
    if not is_sequence(row) or len(row) != 3:
        return "row"
    name, value, level = row
    if not is_name(name):
        return "name"
    if not is_value(value):
        return "value"
    if not is_integer(level) or not 0 <= level <= deepest:
        return "level"
    if name in earlier:
        return "twice"
    return None


def _check_rows(rows):
    """Raise NoForest for the first row that is not as a forest needs it."""
    earlier = {}
    deepest = 0
    for place, row in enumerate(rows):
        why = _wrong_word(row, deepest, earlier)
        if why is not None:
            raise NoForest(place, why)
        earlier[row[0]] = True
        deepest = row[2] + 1


class Forest:
    """An ordered forest of named nodes: `rows` has a triple (name, value, level) for each."""

    MOST = 60

    def __init__(self, rows):
        if not is_sequence(rows) or len(rows) > Forest.MOST:
            raise NoForest(-1, "rows")
        _check_rows(rows)
        self.rows = tuple([tuple(row) for row in rows])
        self._order = tuple([row[0] for row in self.rows])
        self._places = {name: place for place, name in enumerate(self._order)}

    def __eq__(self, other):
        return isinstance(other, Forest) and self.rows == other.rows

    def __len__(self):
        return len(self.rows)

    def __contains__(self, x):
        # A name is asked for first, since not everything can be looked up in a dict.
        return is_name(x) and x in self._places

    def __iter__(self):
        return iter(self._order)

    def __add__(self, other):
        if not isinstance(other, Forest):
            return NotImplemented
        for name in other._order:
            if name in self._places:
                raise Twice(name)
        return Forest(self.rows + other.rows)

    def names(self):
        """All names in preorder."""
        return list(self._order)

    def roots(self):
        """The names of the roots, in order."""
        return self._names_at(0, len(self.rows), 0)

    def parent_of(self, name):
        """The name of the parent, or None for a root."""
        line = self._line(self._place(name))
        return self._order[line[-2]] if len(line) > 1 else None

    def children_of(self, name):
        """The names of the children, in order."""
        place = self._place(name)
        return self._names_at(place + 1, self._end(place), self.rows[place][2] + 1)

    def rank_of(self, name):
        """The place of a node among the children of its parent, or among the roots."""
        parent = self.parent_of(name)
        siblings = self.roots() if parent is None else self.children_of(parent)
        return siblings.index(name)

    def ancestors_of(self, name):
        """The names of the ancestors, from the root down to the parent."""
        line = self._line(self._place(name))
        return [self._order[at] for at in line[:-1]]

    def descendants_of(self, name):
        """The names of the descendants in preorder."""
        place = self._place(name)
        return list(self._order[place + 1:self._end(place)])

    def level_of(self, name):
        """The level of a node."""
        return self.rows[self._place(name)][2]

    def size_of(self, name):
        """The number of nodes in the subtree of a node."""
        place = self._place(name)
        return self._end(place) - place

    def is_above(self, one, other):
        """Whether `one` is an ancestor of `other`."""
        upper = self._place(one)
        lower = self._place(other)
        return upper < lower < self._end(upper)

    def meet_of(self, one, other):
        """The lowest node whose subtree has both, or None."""
        line = self._line(self._place(one))
        beside = self._line(self._place(other))
        shared = [at for at in line if at in beside]
        return self._order[shared[-1]] if shared else None

    def value_of(self, name):
        """The value of a node."""
        return self.rows[self._place(name)][1]

    def total_of(self, name):
        """The sum of the values in the subtree of a node."""
        place = self._place(name)
        return sum([row[1] for row in self.rows[place:self._end(place)]])

    def place_of(self, name):
        """The place of a node in preorder."""
        return self._place(name)

    def name_at(self, place):
        """The name at a place in preorder."""
        if not is_integer(place) or not 0 <= place < len(self.rows):
            raise NoPlace(place)
        return self._order[place]

    def leaves(self):
        """The names of the nodes without children, in preorder."""
        return [name for place, name in enumerate(self._order) if self._end(place) == place + 1]

    def height(self):
        """The number of levels."""
        return max([row[2] + 1 for row in self.rows], default=0)

    def _place(self, name):
        """The place of the node of a name, which must be there."""
        if name not in self:
            raise NoNode(name)
        return self._places[name]

    def _end(self, place):
        """The place behind the subtree of the node at a place."""
        level = self.rows[place][2]
        for at in range(place + 1, len(self.rows)):
            if self.rows[at][2] <= level:
                return at
        return len(self.rows)

    def _line(self, place):
        """The places of the ancestors of a node, from the root down, and its own."""
        line = [place]
        for at in reversed(range(place)):
            if self.rows[at][2] < self.rows[line[-1]][2]:
                line.append(at)
        return line[::-1]

    def _names_at(self, start, end, level):
        """The names from one place to below another one that have this level."""
        return [row[0] for row in self.rows[start:end] if row[2] == level]
