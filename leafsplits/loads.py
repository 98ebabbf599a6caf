"""Loads: runs that begin with an index without entries."""

from leafsplits.checks import is_between
from leafsplits.climbs import climbed
from leafsplits.errors import InvalidHeight
from leafsplits.indexes import new_index
from leafsplits.parameters import check_any_level, check_kind, check_number
from leafsplits.rules import check_rule
from leafsplits.steps import behind_run

MOST_HEIGHT = 400


def loaded(rule, kind, number):
    """The index behind a load."""
    check_rule(rule)
    check_kind(kind)
    check_number(number)
    return behind_run(new_index(rule), kind, 0, number)


def load_pages(rule, kind, number, level):
    """How many pages a level has behind a load."""
    check_rule(rule)
    check_kind(kind)
    check_number(number)
    check_any_level(level)
    index = behind_run(new_index(rule), kind, 0, number)
    return index.pages(level) if level < index.height else 0


def load_height(rule, kind, number):
    """How many levels there are behind a load."""
    check_rule(rule)
    check_kind(kind)
    check_number(number)
    return behind_run(new_index(rule), kind, 0, number).height


def first_height(rule, kind, height):
    """The least number of entries of a load with this height."""
    check_rule(rule)
    check_kind(kind)
    if not is_between(height, 1, MOST_HEIGHT):
        raise InvalidHeight("not an integer from 1 to 400")
    if height == 1:
        return 0
    # A level comes up when the root below it is split for the first time.
    return climbed(new_index(rule), kind, 0, height - 2).splits.moment(1)


def first_more(rule, second, kind, level):
    """The least number of entries with which the first rule has more pages on a level, or None."""
    check_rule(rule)
    check_rule(second)
    check_kind(kind)
    check_any_level(level)
    one = climbed(new_index(rule), kind, 0, level)
    other = climbed(new_index(second), kind, 0, level)
    # The first rule is ahead with its so-manieth page as soon as it has that
    # page earlier than the second rule. The first page comes with the first
    # item of the level, the others come with its splits.
    if one.arrivals.moment(1) < other.arrivals.moment(1):
        return one.arrivals.moment(1)
    # A load has all its splits in steady progressions.
    late = one.splits.first - other.splits.first
    gained = other.splits.apart - one.splits.apart
    if late < 0:
        return one.splits.first
    if gained > 0:
        return one.splits.moment(late // gained + 2)
    return None
