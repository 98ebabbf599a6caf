"""The inserts of a run at which the pages of a level are split."""

from leafsplits.checks import is_between
from leafsplits.climbs import Climb, split_count, split_insert
from leafsplits.errors import InvalidNumber
from leafsplits.indexes import check_index, kept_levels
from leafsplits.parameters import check_any_level, check_gap, check_kind, check_number

MOST_INSERT = 10 ** 60


def splits(index, kind, gap, number, level):
    """How many pages of a level are split in a run."""
    check_index(index)
    check_kind(kind)
    check_gap(index, gap)
    check_number(number)
    check_any_level(level)
    return split_count(index.rule, kept_levels(index), (kind, gap, number), level)


def split_moment(index, kind, gap, level, count):
    """The insert at which a page of a level is split for the so-manieth time."""
    check_index(index)
    check_kind(kind)
    check_gap(index, gap)
    check_any_level(level)
    check_number(count)
    return split_insert(index, kind, gap, level, count)


def split_levels(index, kind, gap, insert):
    """How many levels are split at an insert."""
    check_index(index)
    check_kind(kind)
    check_gap(index, gap)
    if not is_between(insert, 1, MOST_INSERT):
        raise InvalidNumber("not an integer from 1 to 10 ** 60")
    # Each level gets an item where a page of the level below is split.
    levels = 0
    climb = Climb(index, kind, gap)
    item = climb.splits.count_at(insert)
    while item > 0:
        levels += 1
        climb.go_up()
        item = climb.splits.count_at(item)
    return levels
