"""A desk with a book: commands and answers as strings."""

from forestrows.axes import is_axis
from forestrows.books import Book
from forestrows.errors import BadText, ForestError
from forestrows.kinds import is_name
from forestrows.routes import MOST_STEPS, Route, ask
from forestrows.texts import forest_text, is_number_text, read_deed

BAD_ROW = "refused badrow"
MOST_BOUND_DIGITS = 31


class Desk:
    """A book that is told commands."""

    def __init__(self, forest, *, most):
        self._book = Book(forest, most=most)

    def tell(self, row):
        """The answer to a command."""
        if not isinstance(row, str):
            return [BAD_ROW]
        try:
            return self._answer(row)
        except BadText:
            # What cannot be read as a deed is no command at all.
            return [BAD_ROW]
        except ForestError as e:
            return [e.told()]

    def _answer(self, row):
        """The answer to a command, unless an error is raised."""
        words = row.split(" ")
        if row in ("undo", "redo") or words[0] == "bound":
            return self._moved(words)
        if row in ("forest", "spans", "keys", "pairs"):
            return self._shown(row)
        if words[0] == "ask":
            return self._asked(words)
        changes = self._book.do(read_deed(row))
        return [" ".join([str(len(change.changed)) for change in changes])]

    def _moved(self, words):
        """The answer to a command that goes through the history or sets the bound."""
        if words[0] == "undo":
            self._book.undo()
        elif words[0] == "redo":
            self._book.redo()
        elif len(words) == 2 and is_number_text(words[1], MOST_BOUND_DIGITS):
            self._book.set_bound(int(words[1]))
        else:
            return [BAD_ROW]
        return ["done"]

    def _shown(self, word):
        """The answer to a command that shows what there is."""
        if word == "forest":
            return [forest_text(self._book.forest())]
        if word == "spans":
            return [f"{name} {left} {right}" for name, _, left, right in self._book.span_rows()]
        if word == "keys":
            return [f"{name} {key.hex()}" for name, _, key in self._book.key_rows()]
        return [str(len(self._book.pair_rows()))]

    def _asked(self, words):
        """The answer to a command that asks where axes lead."""
        axes = words[2:]
        if not 1 <= len(axes) <= MOST_STEPS or not is_name(words[1]) or not all([is_axis(word) for word in axes]):
            return [BAD_ROW]
        found = ask(self._book.forest(), Route([(axis, None) for axis in axes]), words[1])
        return [" ".join(found) if found else "none"]
