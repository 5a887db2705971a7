"""Whether rows are those of a forest, in each of the three layouts, and the walk over span rows."""

from forestrows.errors import NoBound
from forestrows.forests import Forest
from forestrows.kinds import is_bound, is_integer, is_name, is_sequence, is_value
from forestrows.labels import is_key, split_key

MOST_PAIRS = 1830


class Fault:
    """What is wrong with rows: the place of the row, and a word."""

    def __init__(self, place, word):
        self.place = place
        self.word = word

    def __eq__(self, other):
        return isinstance(other, Fault) and self.place == other.place and self.word == other.word


def judge_spans(rows, most):
    """The fault of span rows below a bound, or None if they are right."""
    if not is_bound(most):
        raise NoBound(most)
    if not is_sequence(rows) or len(rows) > Forest.MOST:
        return Fault(-1, "rows")
    for place, row in enumerate(rows):
        word = _span_word(row, most, rows[:place])
        if word is not None:
            return Fault(place, word)
    return None


def judge_keys(rows):
    """The fault of key rows, or None if they are right."""
    if not is_sequence(rows) or len(rows) > Forest.MOST:
        return Fault(-1, "rows")
    for place, row in enumerate(rows):
        word = _key_word(row, rows[:place])
        if word is not None:
            return Fault(place, word)
    there = {row[2]: True for row in rows}
    for place, row in enumerate(rows):
        labels = split_key(row[2])
        if len(labels) > 1 and b"".join(labels[:-1]) not in there:
            return Fault(place, "parent")
    return None


def judge_pairs(rows):
    """The fault of pair rows, or None if they are right."""
    if not is_sequence(rows) or len(rows) > MOST_PAIRS:
        return Fault(-1, "rows")
    steps = {}
    names = {}
    for place, row in enumerate(rows):
        word = _pair_word(row, steps, names)
        if word is not None:
            return Fault(place, word)
        steps[(row[0], row[1])] = row[2]
        names[row[0]] = True
        names[row[1]] = True
    for word in TOGETHER:
        find = TOGETHER[word]
        places = find(rows, steps)
        if places:
            return Fault(places[0], word)
    return None


def walk_spans(rows):
    """Yield the pairs (level, name) of all nodes of right span rows, in preorder."""
    ends = []
    for left, right, name in sorted([(row[2], row[3], row[0]) for row in rows]):
        while ends and ends[-1] < left:
            ends.pop()
        yield len(ends), name
        ends.append(right)


def _span_word(row, most, earlier):
    """The first word that applies to a span row behind right ones, or None."""
    if not is_sequence(row) or len(row) != 4:
        return "row"
    name, value, left, right = row
    if not is_name(name):
        return "name"
    if not is_value(value):
        return "value"
    if not _is_number(left, most) or not _is_number(right, most):
        return "number"
    if left >= right:
        return "order"
    if name in [one[0] for one in earlier]:
        return "twice"
    taken = [number for one in earlier for number in (one[2], one[3])]
    if left in taken or right in taken:
        return "shared"
    if any([cross(row[2:], one[2:]) for one in earlier]):
        return "crossed"
    return None


def _is_number(x, most):
    """Whether x is an integer from 0 to below a bound."""
    return is_integer(x) and 0 <= x < most


def cross(span, other):
    """Whether of two pairs (left, right) with different numbers just one number of one is between those of the other.
    """
    return (span[0] < other[0] < span[1]) != (span[0] < other[1] < span[1])


def _key_word(row, earlier):
    """The first word that applies to a key row behind right ones, or None."""
    if not is_sequence(row) or len(row) != 3:
        return "row"
    name, value, key = row
    if not is_name(name):
        return "name"
    if not is_value(value):
        return "value"
    if not is_key(key):
        return "key"
    if name in [one[0] for one in earlier]:
        return "twice"
    if key in [one[2] for one in earlier]:
        return "shared"
    return None


def _pair_word(row, steps, names):
    """The first word that applies to a pair row behind right ones, with their steps and names, or None."""
    if not is_sequence(row) or len(row) != 5:
        return "row"
    above, below, apart, rank, value = row
    if not is_name(above) or not is_name(below):
        return "name"
    if not is_value(value):
        return "value"
    if not _is_count(apart) or (apart == 0) != (above == below):
        return "steps"
    if not _is_count(rank):
        return "rank"
    if (above, below) in steps:
        return "twice"
    new = {name: True for name in (above, below) if name not in names}
    if len(names) + len(new) > Forest.MOST:
        return "many"
    return None


def _is_count(x):
    """Whether x is an integer from 0 on."""
    return is_integer(x) and x >= 0


def _self_places(rows, steps):
    """The places of the rows that have a name without a row of this name with itself."""
    return [place for place, row in enumerate(rows)
            if (row[0], row[0]) not in steps or (row[1], row[1]) not in steps]


def _line_places(rows, steps):
    """The places of the rows that bring a second parent, or that no line of parents leads to."""
    parents = _parents(rows)
    found = []
    with_parent = {}
    for place, row in enumerate(rows):
        if row[2] == 1:
            if row[1] in with_parent:
                found.append(place)
            with_parent[row[1]] = True
        elif row[2] > 1:
            nearer = [steps.get((row[0], parent)) for parent in parents.get(row[1], [])]
            if row[2] - 1 not in nearer:
                found.append(place)
    return found


def _gap_places(rows, steps):
    """The places of the rows for which the row of the next ancestor is missing."""
    parents = _parents(rows)
    return [place for place, row in enumerate(rows)
            if any([steps.get((parent, row[1])) != row[2] + 1 for parent in parents.get(row[0], [])])]


def _rank_places(rows, steps):
    """The places of the rows with another rank than an earlier row of the same upper name."""
    return _other_places([(row[0], row[3]) for row in rows])


def _value_places(rows, steps):
    """The places of the rows with another value than an earlier row of the same lower name."""
    return _other_places([(row[1], row[4]) for row in rows])


def _other_places(pairs):
    """The places of the pairs (name, number) with another number than the first pair of this name."""
    first = {}
    found = []
    for place, (name, number) in enumerate(pairs):
        if first.setdefault(name, number) != number:
            found.append(place)
    return found


def _order_places(rows, steps):
    """The places of the rows of names with themselves whose ranks are not those of siblings."""
    parents = _parents(rows)
    alone = [place for place, row in enumerate(rows) if row[0] == row[1]]
    # By now no name has several parents: a family is told by its one parent, or by None.
    family = {place: parents.get(rows[place][0], [None])[0] for place in alone}
    children = list(family.values())
    taken = {}
    found = []
    for place in alone:
        rank = rows[place][3]
        if rank >= children.count(family[place]) or (family[place], rank) in taken:
            found.append(place)
        taken[(family[place], rank)] = True
    return found


def _parents(rows):
    """For each name the names that are one step above it."""
    found = {}
    for row in rows:
        if row[2] == 1:
            found.setdefault(row[1], []).append(row[0])
    return found


# The words that are looked for behind all rows, in their order.
TOGETHER = {
    "self": _self_places,
    "line": _line_places,
    "gap": _gap_places,
    "ranks": _rank_places,
    "values": _value_places,
    "order": _order_places,
}
