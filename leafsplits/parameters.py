"""The parameters that several functions have: which values are valid, and the errors for the others."""

from leafsplits.checks import is_between, is_word
from leafsplits.errors import InvalidEntry, InvalidGap, InvalidKind, InvalidLevel, InvalidNumber

UP = "up"
DROP = "drop"
KINDS = ("up", "down")
WORDS = ("up", "down", "drop")
MOST_NUMBER = 10 ** 30
MOST_LEVEL = 200


def is_kind(kind):
    """Whether a value is one of the kinds of runs."""
    return is_word(kind, KINDS)


def is_gap(index, gap):
    """Whether a value is a gap of the index."""
    return is_between(gap, 0, index.entries)


def is_number(number):
    """Whether a value is a number of entries that a run can have."""
    return is_between(number, 1, MOST_NUMBER)


def is_first_entry(index, first):
    """Whether a value is an entry of the index."""
    return is_between(first, 1, index.entries)


def is_last_entry(index, first, last):
    """Whether a value is an entry of the index that is not ahead of the first one."""
    return is_between(last, first, index.entries)


def is_run(index, item):
    """Whether a value is a tuple (kind, gap, number) of a run that the index can take."""
    if not isinstance(item, tuple) or len(item) != 3:
        return False
    kind, gap, number = item
    return is_kind(kind) and is_gap(index, gap) and is_number(number)


def is_step(index, step):
    """Whether a value is a step that the index can take."""
    if not isinstance(step, tuple) or len(step) != 3:
        return False
    word, first, second = step
    if not is_word(word, (DROP,)):
        return is_run(index, step)
    return is_first_entry(index, first) and is_last_entry(index, first, second)


def check_kind(kind):
    """Raises InvalidKind unless the value is a kind of runs."""
    if not is_kind(kind):
        raise InvalidKind("neither up nor down")


def check_gap(index, gap):
    """Raises InvalidGap unless the value is a gap of the index."""
    if not is_gap(index, gap):
        raise InvalidGap("not a gap of the index")


def check_number(number):
    """Raises InvalidNumber unless the value is a number of entries that a run can have."""
    if not is_number(number):
        raise InvalidNumber("not an integer from 1 to 10 ** 30")


def check_entries(index, first, last):
    """Raises InvalidEntry unless the values are a first and a last entry of the index."""
    if not is_first_entry(index, first):
        raise InvalidEntry("the first one is not an entry of the index")
    if not is_last_entry(index, first, last):
        raise InvalidEntry("the last one is not an entry of the index, or ahead of the first one")


def check_any_level(level):
    """Raises InvalidLevel unless the value is a level that can be asked whether or not it is there."""
    if not is_between(level, 0, MOST_LEVEL):
        raise InvalidLevel("not an integer from 0 to 200")
