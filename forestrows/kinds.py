"""What counts as an integer, a sequence, a name, a value and a bound; dicts of integers."""

LETTERS = "abcdefghijklmnopqrstuvwxyz"
DIGITS = "0123456789"
LONGEST_NAME = 8
GREATEST_VALUE = 10 ** 30
GREATEST_BOUND = 10 ** 30


def is_integer(x):
    """Whether x is an INTEGER: True and False are none."""
    return isinstance(x, int) and not isinstance(x, bool)


def is_sequence(x):
    """Whether x is a list or a tuple: strings and bytes are none."""
    return isinstance(x, (list, tuple))


def is_name(x):
    """Whether x is a NAME."""
    if not isinstance(x, str) or not 1 <= len(x) <= LONGEST_NAME:
        return False
    return x[0] in LETTERS and all([sign in LETTERS + DIGITS for sign in x])


def is_value(x):
    """Whether x is a VALUE."""
    return is_integer(x) and -GREATEST_VALUE <= x <= GREATEST_VALUE


def is_bound(x):
    """Whether x is a BOUND."""
    return is_integer(x) and 1 <= x <= GREATEST_BOUND


def has_integers(numbers, wanted):
    """Whether something is a dict with an integer for each wanted key."""
    return isinstance(numbers, dict) and all([is_integer(numbers.get(key)) for key in wanted])
