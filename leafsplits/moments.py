"""The inserts of a run at which the pages of a level are split."""

from leafsplits.checks import is_between
from leafsplits.climbs import Climb, climbed
from leafsplits.errors import InvalidNumber
from leafsplits.indexes import check_index
from leafsplits.parameters import check_any_level, check_gap, check_kind, check_number

MOST_INSERT = 10 ** 60


def splits(index, kind, gap, number, level):
    """How many pages of a level are split in a run."""
    check_index(index)
    check_kind(kind)
    check_gap(index, gap)
    check_number(number)
    check_any_level(level)
    return climbed(index, kind, gap, level).splits.many(number)


def split_moment(index, kind, gap, level, count):
    """The insert at which a page of a level is split for the so-manieth time."""
    check_index(index)
    check_kind(kind)
    check_gap(index, gap)
    check_any_level(level)
    check_number(count)
    return climbed(index, kind, gap, level).splits.moment(count)


def split_levels(index, kind, gap, insert):
    """How many levels are split at an insert."""
    check_index(index)
    check_kind(kind)
    check_gap(index, gap)
    if not is_between(insert, 1, MOST_INSERT):
        raise InvalidNumber("not an integer from 1 to 10 ** 60")
    # A page is split only where one of the level below is.
    levels = 0
    climb = Climb(index, kind, gap)
    while climb.splits.has(insert):
        levels += 1
        climb.go_up()
    return levels
