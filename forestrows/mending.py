"""The largest part of broken rows that can stay, and what shows that no more can."""

from forestrows.errors import NoSpans, NoTable
from forestrows.judging import cross, judge_keys
from forestrows.kinds import has_integers, is_integer, is_sequence
from forestrows.labels import split_key
from forestrows.tables import stored

MOST_SPANS = 20


class Nested:
    """The places of pairs that are kept, and the numbers that show that no more can be."""

    def __init__(self, kept, bounds):
        self.kept = stored(kept)
        self.bounds = stored(bounds)

    def __eq__(self, other):
        return isinstance(other, Nested) and self.kept == other.kept and self.bounds == other.bounds


def largest_nested(spans):
    """A largest set of pairs no two of which cross."""
    _check_spans(spans)
    closing = _closing(spans)
    best = {}
    for i, j in _stretches(spans)[::-1]:
        # Those without the number at i, or the pair that has it with those inside and those behind.
        ways = [best.get((i + 1, j), ())]
        if i in closing and closing[i][0] < j:
            end, place = closing[i]
            ways.append((place,) + best[(i + 1, end)] + best[(end + 1, j)])
        best[(i, j)] = max(ways, key=len)
    return Nested(sorted(best[(0, 2 * len(spans))]), {key: len(best[key]) for key in best})


def check_nested(spans, thing):
    """Whether something is a Nested that shows that no more pairs can be kept."""
    _check_spans(spans)
    if not isinstance(thing, Nested) or not _is_kept(thing.kept, spans):
        return False
    stretches = _stretches(spans)
    if not has_integers(thing.bounds, stretches):
        return False
    if thing.bounds[(0, 2 * len(spans))] != len(thing.kept):
        return False
    closing = _closing(spans)
    return all([_is_bounded(i, j, closing.get(i), thing.bounds) for i, j in stretches])


def largest_keys(rows):
    """The places of the key rows all of whose ancestors are there."""
    fault = judge_keys(rows)
    if fault is not None and fault.word != "parent":
        raise NoTable(fault.place, fault.word)
    there = {row[2]: True for row in rows}
    return [place for place, row in enumerate(rows) if _has_ancestors(row[2], there)]


def _check_spans(spans):
    """Raise NoSpans for the first item that is no pair, or has a number that an earlier one has."""
    if not is_sequence(spans) or len(spans) > MOST_SPANS:
        raise NoSpans(-1)
    taken = {}
    for place, span in enumerate(spans):
        if not _is_span(span) or span[0] in taken or span[1] in taken:
            raise NoSpans(place)
        taken[span[0]] = True
        taken[span[1]] = True


def _is_span(x):
    """Whether x is a pair of ascending integers."""
    return is_sequence(x) and len(x) == 2 and is_integer(x[0]) and is_integer(x[1]) and x[0] < x[1]


def _closing(spans):
    """For the position of each left number that of the right one, and the place of the pair."""
    numbers = sorted([number for span in spans for number in span])
    positions = {number: position for position, number in enumerate(numbers)}
    return {positions[left]: (positions[right], place) for place, (left, right) in enumerate(spans)}


def _stretches(spans):
    """All pairs (i, j) of positions with 0 <= i <= j."""
    count = 2 * len(spans)
    return [(i, j) for i in range(count + 1) for j in range(i, count + 1)]


def _is_kept(kept, spans):
    """Whether something has different places, and no two of the pairs there cross."""
    if not isinstance(kept, tuple) or not all([is_integer(place) and 0 <= place < len(spans) for place in kept]):
        return False
    return all([one != other and not cross(spans[one], spans[other])
                for at, one in enumerate(kept) for other in kept[:at]])


def _is_bounded(i, j, closed, bounds):
    """Whether the number of a stretch is such that no more pairs can be kept in it; `closed` is told by _closing."""
    if i == j:
        return bounds[(i, i)] >= 0
    least = bounds[(i + 1, j)]
    if closed is not None and closed[0] < j:
        end = closed[0]
        least = max(least, 1 + bounds[(i + 1, end)] + bounds[(end + 1, j)])
    return bounds[(i, j)] >= least


def _has_ancestors(key, there):
    """Whether all keys made of the first labels of a key are there."""
    start = b""
    for label in split_key(key)[:-1]:
        start = start + label
        if start not in there:
            return False
    return True
