"""What tables tell of their changes: which rows changed, and that fewer cannot do."""

from forestrows.kinds import is_sequence


class Change:
    """The keys of the rows that were added, that are gone and that are others now."""

    def __init__(self, added, gone, changed):
        self.added = stored(added)
        self.gone = stored(gone)
        self.changed = stored(changed)

    def __eq__(self, other):
        return (isinstance(other, Change) and self.added == other.added and self.gone == other.gone
                and self.changed == other.changed)


class Certificate:
    """The names whose rows are kept, and the numbers that show that no more can be."""

    def __init__(self, kept, worths, heights):
        self.kept = stored(kept)
        self.worths = stored(worths)
        self.heights = stored(heights)

    def __eq__(self, other):
        return (isinstance(other, Certificate) and self.kept == other.kept and self.worths == other.worths
                and self.heights == other.heights)


def change_between(before, after):
    """The change from some rows to others, both as dicts of the rows by their keys."""
    added = [key for key in after if key not in before]
    gone = [key for key in before if key not in after]
    changed = [key for key in after if key in before and before[key] != after[key]]
    return Change(sorted(added), sorted(gone), sorted(changed))


def stored(x):
    """What a field keeps: a sequence as a tuple, a dict as a copy."""
    if is_sequence(x):
        return tuple([_copied(one) for one in x])
    return _copied(x)


def _copied(x):
    """Lists and dicts as copies, also inside, since later changes must have no effect."""
    if isinstance(x, list):
        return [_copied(one) for one in x]
    if isinstance(x, tuple):
        return tuple([_copied(one) for one in x])
    if isinstance(x, dict):
        return {key: _copied(x[key]) for key in x}
    return x
