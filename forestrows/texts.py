"""Forests and deeds as texts, and texts as forests and deeds."""

from forestrows.deeds import Cut, Lift, Move, Put, Reverse, SetValue, Wrap
from forestrows.errors import BadText, NoDeed
from forestrows.forests import Forest
from forestrows.kinds import DIGITS, GREATEST_VALUE, is_integer, is_name, is_value

NO_NODES = "none"
NO_PARENT = "-"
MOST_VALUE_DIGITS = 31
MOST_RANK_DIGITS = 2
GREATEST_RANK = 99
# What stands behind the first word of a deed.
PARTS = {
    "put": ("name", "value", "parent", "rank"),
    "move": ("name", "parent", "rank"),
    "cut": ("name",),
    "lift": ("name",),
    "wrap": ("name", "value", "parent", "rank", "rank"),
    "reverse": ("parent",),
    "set": ("name", "value"),
}


def forest_text(forest):
    """The text of a forest."""
    if len(forest) == 0:
        return NO_NODES
    parts = []
    depth = 0
    for place, (name, value, level) in enumerate(forest.rows):
        if level > depth:
            parts.append("(")
        elif place > 0:
            parts.append(")" * (depth - level) + ",")
        parts.append(f"{name}={value}")
        depth = level
    return "".join(parts) + ")" * depth


def read_forest(text):
    """The forest of a text."""
    if not isinstance(text, str):
        raise BadText(0)
    if text == NO_NODES:
        return Forest([])
    rows = []
    earlier = {}
    for start, row in _read_trees(text):
        if row[0] in earlier or len(rows) == Forest.MOST:
            raise BadText(start)
        earlier[row[0]] = True
        rows.append(row)
    return Forest(rows)


def deed_text(deed):
    """The text of a deed."""
    word, fields = _word_and_fields(deed)
    for field, part in zip(fields, PARTS[word]):
        if not _can_be_field(field, part):
            raise NoDeed("text")
    return " ".join([word] + [NO_PARENT if field is None else str(field) for field in fields])


def read_deed(text):
    """The deed of a text."""
    if not isinstance(text, str):
        raise BadText(0)
    words = text.split(" ")
    if words[0] not in PARTS:
        raise BadText(0)
    parts = PARTS[words[0]]
    for place, word in enumerate(words[1:], start=1):
        if place > len(parts) or not _can_be_word(word, parts[place - 1]):
            raise BadText(place)
    if len(words) <= len(parts):
        raise BadText(len(words))
    return _deed_of(words[0], [_field_of(word, part) for word, part in zip(words[1:], parts)])


def is_number_text(word, most):
    """Whether a word has 1 to so many digits, without leading zeros."""
    if not 1 <= len(word) <= most or not all([sign in DIGITS for sign in word]):
        return False
    return word == "0" or word[0] != "0"


def _is_value_text(word):
    """Whether a word is the text of a value."""
    digits = word[1:] if word.startswith("-") else word
    return is_number_text(digits, MOST_VALUE_DIGITS) and word != "-0" and int(digits) <= GREATEST_VALUE


def _read_trees(text):
    """The nodes of a text of right form: for each the place where it starts, and its row."""
    found = []
    level = 0
    at = 0
    while True:
        equals = _after_name(text, at)
        end = _after_value(text, equals + 1)
        found.append((at, (text[at:equals], int(text[equals + 1:end]), level)))
        at = end
        if text[at:at + 1] == "(":
            level += 1
        else:
            while level > 0 and text[at:at + 1] == ")":
                level -= 1
                at += 1
            if at == len(text) and level == 0:
                return found
            if text[at:at + 1] != ",":
                raise BadText(at)
        at += 1


def _after_name(text, start):
    """The place behind a name that starts at a place, where `=` has to stand."""
    end = start
    while end < len(text) and is_name(text[start:end + 1]):
        end += 1
    if end == start or text[end:end + 1] != "=":
        raise BadText(end)
    return end


def _after_value(text, start):
    """The place behind a value that starts at a place."""
    first = start + 1 if text[start:start + 1] == "-" else start
    end = first
    # As long as the text of a value goes on, it is one up to each digit.
    while end < len(text) and _is_value_text(text[start:end + 1]):
        end += 1
    if end == first:
        raise BadText(end)
    return end


def _word_and_fields(deed):
    """The first word of the text of a deed, and the fields that follow."""
    if isinstance(deed, Put):
        return "put", (deed.name, deed.value, deed.parent, deed.rank)
    if isinstance(deed, Move):
        return "move", (deed.name, deed.parent, deed.rank)
    if isinstance(deed, Cut):
        return "cut", (deed.name,)
    if isinstance(deed, Lift):
        return "lift", (deed.name,)
    if isinstance(deed, Wrap):
        return "wrap", (deed.name, deed.value, deed.parent, deed.first, deed.last)
    if isinstance(deed, Reverse):
        return "reverse", (deed.parent,)
    if isinstance(deed, SetValue):
        return "set", (deed.name, deed.value)
    raise NoDeed("text")


def _deed_of(word, fields):
    """The deed with this first word and these fields."""
    if word == "put":
        return Put(*fields)
    if word == "move":
        return Move(*fields)
    if word == "cut":
        return Cut(*fields)
    if word == "lift":
        return Lift(*fields)
    if word == "wrap":
        return Wrap(*fields)
    if word == "reverse":
        return Reverse(*fields)
    return SetValue(*fields)


def _can_be_field(field, part):
    """Whether a field of a deed has a text."""
    if part == "name":
        return is_name(field)
    if part == "value":
        return is_value(field)
    if part == "parent":
        return field is None or is_name(field)
    return is_integer(field) and 0 <= field <= GREATEST_RANK


def _can_be_word(word, part):
    """Whether a word can stand for a field of a deed."""
    if part == "name":
        return is_name(word)
    if part == "value":
        return _is_value_text(word)
    if part == "parent":
        return word == NO_PARENT or is_name(word)
    return is_number_text(word, MOST_RANK_DIGITS)


def _field_of(word, part):
    """The field for which a word stands."""
    if part in ("value", "rank"):
        return int(word)
    return None if word == NO_PARENT else word
