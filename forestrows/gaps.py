"""For how many insertions a gap of free numbers surely lasts."""

from forestrows.errors import NoCount
from forestrows.kinds import is_integer

MOST_FREE = 10 ** 30


def lasting(free):
    """How many leaves can surely be put, one after the other, each into a part of the last gap."""
    _check_count(free)
    times = 0
    while free >= 2:
        # The best that the opponent leaves is the least of three parts that are as equal as can be.
        free = (free - 2) // 3
        times += 1
    return times


def placed(free):
    """How many free numbers to leave before and inside the span of a leaf; None if it has no room."""
    _check_count(free)
    if free < 2:
        return None
    third = (free - 2) // 3
    return third, third


def _check_count(free):
    """Raise NoCount for what is no number of free numbers."""
    if not is_integer(free) or not 0 <= free <= MOST_FREE:
        raise NoCount(free)
