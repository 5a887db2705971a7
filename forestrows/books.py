"""Books: a forest with its three tables, and the history of what was done to them."""

from forestrows.doing import done
from forestrows.errors import NoBack, NoDeed, NoDeeds, NoMark, NoName
from forestrows.keys import KeyTable
from forestrows.kinds import is_name, is_sequence
from forestrows.pairs import PairTable
from forestrows.spans import SpanTable


class Book:
    """A forest and the tables of it, which can be led back and forth in their history."""

    def __init__(self, forest, *, most):
        self._tree = forest
        self._spans = SpanTable.laid(forest, most=most)
        self._keyed = KeyTable.laid(forest)
        self._paired = PairTable.laid(forest)
        self._states = [self._state()]
        self._now = 0
        self._marks = {}

    @property
    def limit(self):
        """The bound of the spans."""
        return self._spans.limit

    def forest(self):
        """The forest as it is."""
        return self._tree

    def span_rows(self):
        """The rows of the span table."""
        return self._spans.rows

    def key_rows(self):
        """The rows of the key table."""
        return self._keyed.rows

    def pair_rows(self):
        """The rows of the pair table."""
        return self._paired.rows

    def do(self, deed):
        """Do a deed, and tell the changes of the spans, the keys and the pairs."""
        changes = self._become(done(self._tree, deed))
        self._go_on()
        return changes

    def do_all(self, deeds):
        """Do all deeds, one after the other, or none; tell how many."""
        forests = self._forests_behind(deeds)
        for forest in forests:
            self._become(forest)
        if forests:
            self._go_on()
        return len(forests)

    def undo(self):
        """Take back what was done last."""
        if self._now == 0:
            raise NoBack()
        self._go_to(self._now - 1)

    def redo(self):
        """Do again what was taken back last."""
        if self._now + 1 == len(self._states):
            raise NoBack()
        self._go_to(self._now + 1)

    def many(self):
        """How many calls can be undone."""
        return self._now

    def mark(self, name):
        """Keep the place in the history under a name."""
        if not is_name(name):
            raise NoName(name)
        self._marks[name] = self._now

    def back_to(self, name):
        """Undo or redo up to a mark; tell how many were undone."""
        # A name is asked for first, since not everything can be looked up in a dict.
        if not is_name(name) or name not in self._marks:
            raise NoMark(name)
        undone = self._now - self._marks[name]
        self._go_to(self._marks[name])
        return undone

    def set_bound(self, bound):
        """Set the bound of the spans."""
        self._spans.set_bound(bound)
        self._go_on()

    def _become(self, forest):
        """Change the tables for a forest, and tell the three changes."""
        # Only the spans can be full: they come first, so that nothing has changed then.
        changes = (self._spans.become(forest), self._keyed.become(forest), self._paired.become(forest))
        self._tree = forest
        return changes

    def _forests_behind(self, deeds):
        """The forests behind each of some deeds, all of which can be done."""
        if not is_sequence(deeds):
            raise NoDeeds(-1, "deeds")
        forests = [self._tree]
        for place, deed in enumerate(deeds):
            try:
                forests.append(done(forests[-1], deed))
            except NoDeed as e:
                raise NoDeeds(place, e.why)
            if 2 * len(forests[-1]) > self._spans.limit:
                raise NoDeeds(place, "full")
        return forests[1:]

    def _state(self):
        """What leads back here; the pair rows are those of the forest."""
        return self._tree, self._spans.limit, self._spans.rows, self._keyed.rows

    def _go_on(self):
        """Let the history end here, behind what was just done; marks of what it had behind are forgotten."""
        del self._states[self._now + 1:]
        self._marks = {name: place for name, place in self._marks.items() if place <= self._now}
        self._states.append(self._state())
        self._now += 1

    def _go_to(self, place):
        """Bring the forest and the tables to a place in the history."""
        forest, limit, span_rows, key_rows = self._states[place]
        self._tree = forest
        self._spans = SpanTable(span_rows, limit)
        self._keyed = KeyTable(key_rows)
        self._paired = PairTable.laid(forest)
        self._now = place
