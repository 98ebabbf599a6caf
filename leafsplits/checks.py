"""Tests of values that may be of any kind."""

MOST_DIGITS = 100


def is_integer(value):
    """Whether a value is an integer."""
    return isinstance(value, int) and not isinstance(value, bool)


def is_between(value, least, most):
    """Whether a value is an integer from the least to the most one."""
    return isinstance(value, int) and not isinstance(value, bool) and least <= value <= most


def is_list(value, least, most):
    """Whether a value is a list with at least and at most so many items."""
    return isinstance(value, list) and least <= len(value) <= most


def is_pair(value):
    """Whether a value is a tuple of two items."""
    return isinstance(value, tuple) and len(value) == 2


def is_word(value, words):
    """Whether a value is one of these strings."""
    return isinstance(value, str) and value in words


def is_decimal(text):
    """Whether a string is a number of at most 100 digits, without zeros in front."""
    if not text.isdigit() or not text.isascii() or len(text) > MOST_DIGITS:
        return False
    return text == "0" or text[0] != "0"
