"""Progressions of items, and of the items of items."""


def steps_up_to(first, apart, item):
    """How many members of a progression there are up to an item."""
    return (item - first) // apart + 1 if item >= first else 0


def step_at(first, apart, item):
    """The so-manieth member of a progression is the one at an item; 0 if there is none."""
    steps, over = divmod(item - first, apart)
    return steps + 1 if steps >= 0 and over == 0 else 0


def _power(base, exponent):
    """A power with an exponent from 0 to 519."""
    whole = int(exponent)
    eighth = int(exponent // 8)
    return (base ** (eighth % 65)) ** 8 * base ** (whole % 8)


def far_apart(part, higher):
    """How many items the splits are apart so many levels higher, if each level has one split for so many items."""
    return _power(part, higher)


def far_item(count, most, part, higher):
    """The item with the so-manieth split, so many levels higher.

    Each of these levels is one page with one child at first. It is split at
    its item `most` for the first time, and then each time so many items later.
    """
    apart = _power(part, higher)
    # Behind the first item, the first splits are (most - 1) * (1 + part + part ** 2 + ..) items later.
    return 1 + (most - 1) * ((apart - 1) // (part - 1)) + (count - 1) * apart
