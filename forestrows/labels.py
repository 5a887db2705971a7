"""Labels and keys: byte strings that can always be put between two others."""

from forestrows.errors import NoKey, NoLabel
from forestrows.kinds import is_integer, is_sequence

LONGEST_LABEL = 1000
MOST_LABELS = 200
GREATEST_BYTE = 255
GREATEST_LAST = 254


def split_key(key):
    """The labels of a key."""
    if not isinstance(key, bytes) or len(key) == 0:
        raise NoKey(-1)
    if 0 in key:
        raise NoKey(key.index(b"\x00"))
    if key[-1] & 1:
        raise NoKey(len(key))
    labels = []
    start = 0
    for place, byte in enumerate(key):
        # Only the last byte of a label is even.
        if not byte & 1:
            labels.append(key[start:place + 1])
            start = place + 1
    return labels


def is_key(x):
    """Whether x is a KEY."""
    return isinstance(x, bytes) and len(x) > 0 and 0 not in x and not x[-1] & 1


def bytes_of(numbers):
    """The byte string with these bytes."""
    if not is_sequence(numbers):
        raise NoKey(-1)
    for place, number in enumerate(numbers):
        if not is_integer(number) or not 0 <= number <= GREATEST_BYTE:
            raise NoKey(place)
    return bytes(numbers)


def numbers_of(data):
    """The bytes of a byte string as integers."""
    if not isinstance(data, bytes):
        raise NoKey(-1)
    return list(data)


def labels_between(low, high, count):
    """The first `count` labels between two others, by length and then as byte strings; they ascend."""
    word = _wrong_word(low, high, count)
    if word is not None:
        raise NoLabel(word)
    return first_labels(low, high, count)


def first_labels(low, high, count):
    """As labels_between, for labels of any length, since those that tables make have no bound."""
    found = []
    length = 1
    while len(found) < count:
        label = _next_label(low, length)
        while label is not None and (high is None or label < high) and len(found) < count:
            found.append(label)
            label = _next_label(label, length)
        length += 1
    return sorted(found)


def _wrong_word(low, high, count):
    """The first word of NoLabel that applies, or None."""
    if low is not None and not _is_label(low):
        return "low"
    if high is not None and not _is_label(high):
        return "high"
    if low is not None and high is not None and not low < high:
        return "order"
    if not is_integer(count) or not 0 <= count <= MOST_LABELS:
        return "count"
    return None


def _is_label(x):
    """Whether x is a LABEL that is not too long."""
    if not is_key(x) or len(x) > LONGEST_LABEL:
        return False
    return all([byte & 1 for byte in x[:-1]])


def _next_label(low, length):
    """The least label of a length that is greater than `low`, or than nothing for None; None if there is none."""
    if low is None:
        return b"\x01" * (length - 1) + b"\x02"
    if length > len(low):
        # The byte behind the last one of `low` is odd, as it has to be where a label goes on.
        return low[:-1] + bytes([low[-1] + 1]) + b"\x01" * (length - len(low) - 1) + b"\x02"
    last = low[length - 1]
    # The next even byte.
    last = last + 2 - (last & 1)
    if last <= GREATEST_LAST:
        return low[:length - 1] + bytes([last])
    start = _next_start(low[:length - 1])
    return None if start is None else start + b"\x02"


def _next_start(start):
    """The least string of odd bytes that is as long and greater, or None."""
    raised = start.rstrip(b"\xff")
    if len(raised) == 0:
        return None
    return raised[:-1] + bytes([raised[-1] + 2]) + b"\x01" * (len(start) - len(raised))
