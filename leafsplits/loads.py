"""Loads: runs that begin with an index without entries.

The run of a load always goes on in the last page of a level, or always in the
first one, so all others have what a split leaves behind, and no level has to
be searched.
"""

from leafsplits.checks import is_between
from leafsplits.errors import InvalidHeight
from leafsplits.indexes import built_index
from leafsplits.parameters import UP, check_any_level, check_kind, check_number
from leafsplits.progressions import far_apart, far_item, steps_up_to
from leafsplits.rules import check_rule, inner_part, leaf_part

MOST_HEIGHT = 400


def _split_counts(rule, up, number, highest):
    """How many pages of each level are split in a load, up to a highest level or the root's, which has no split."""
    counts = [steps_up_to(rule.leaf + 1, leaf_part(rule, up), number)]
    most, part = rule.inner, inner_part(rule, up)
    while counts[-1] > 0 and len(counts) <= highest:
        # The splits below bring one page each, and the first page was there.
        counts.append(steps_up_to(most, part, counts[-1]))
    return counts


def _level(up, part, many, rest):
    """A level of so many pages that the run has left behind, and the one with the rest of the items."""
    if part == rest:
        return [(part, many + 1)]
    if many == 0:
        return [(rest, 1)]
    return [(part, many), (rest, 1)] if up else [(rest, 1), (part, many)]


def _levels(rule, up, number):
    """The levels behind a load."""
    found = []
    items = number
    part = leaf_part(rule, up)
    # There are at most as many levels as entries.
    for many in _split_counts(rule, up, number, number):
        found.append(_level(up, part, many, items - many * part))
        items = many + 1
        part = inner_part(rule, up)
    return found


def _first_split(rule, up, level):
    """The number of entries with which a level is split for the first time."""
    return rule.leaf + 1 + (far_item(1, rule.inner, inner_part(rule, up), level) - 1) * leaf_part(rule, up)


def _splits_apart(rule, up, level):
    """How many entries the splits of a level are apart."""
    return leaf_part(rule, up) * far_apart(inner_part(rule, up), level)


def _first_page(rule, up, level):
    """The number of entries with which a level has a page: the split of the root below brings it."""
    return _first_split(rule, up, level - 1) if level > 0 else 0


def loaded(rule, kind, number):
    """The index behind a load."""
    check_rule(rule)
    check_kind(kind)
    check_number(number)
    return built_index(rule, _levels(rule, kind == UP, number))


def load_pages(rule, kind, number, level):
    """How many pages a level has behind a load."""
    check_rule(rule)
    check_kind(kind)
    check_number(number)
    check_any_level(level)
    counts = _split_counts(rule, kind == UP, number, level)
    return counts[level] + 1 if level < len(counts) else 0


def load_height(rule, kind, number):
    """How many levels there are behind a load."""
    check_rule(rule)
    check_kind(kind)
    check_number(number)
    return len(_split_counts(rule, kind == UP, number, number))


def first_height(rule, kind, height):
    """The least number of entries of a load with this height."""
    check_rule(rule)
    check_kind(kind)
    if not is_between(height, 1, MOST_HEIGHT):
        raise InvalidHeight("not an integer from 1 to 400")
    return _first_page(rule, kind == UP, height - 1)


def first_more(rule, second, kind, level):
    """The least number of entries with which the first rule has more pages on a level, or None."""
    check_rule(rule)
    check_rule(second)
    check_kind(kind)
    check_any_level(level)
    up = kind == UP
    # The first rule is ahead with its so-manieth page as soon as it has that
    # page earlier than the second rule.
    page = _first_page(rule, up, level)
    if page < _first_page(second, up, level):
        return page
    first, apart = _first_split(rule, up, level), _splits_apart(rule, up, level)
    late = first - _first_split(second, up, level)
    gained = _splits_apart(second, up, level) - apart
    if late < 0:
        return first
    if gained > 0:
        return first + (late // gained + 1) * apart
    return None
