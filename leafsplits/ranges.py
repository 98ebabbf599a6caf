"""How many pages the ranges of entries touch."""

from math import gcd

from leafsplits.checks import is_between
from leafsplits.errors import InvalidLength
from leafsplits.indexes import check_index, check_level, kept_levels
from leafsplits.levels import page_with, spans
from leafsplits.parameters import check_entries


def _page_of(levels, entry):
    """The page of the highest one of these levels that holds an entry."""
    page = entry - 1
    for level in levels:
        page = page_with(level, page)
    return page


def touched(index, level, first, last):
    """How many pages of a level hold entries from the first to the last one."""
    check_index(index)
    check_level(level, 0, index.height - 1)
    check_entries(index, first, last)
    levels = kept_levels(index)[:level + 1]
    return _page_of(levels, last) - _page_of(levels, first) + 1


def _check_ranges(index, level, length):
    """Raises an error unless the values are an index, a level of it and a length of ranges of its entries."""
    check_index(index)
    check_level(level, 0, index.height - 1)
    if not is_between(length, 1, index.entries):
        raise InvalidLength("not an integer from 1 to the number of entries")


def _capped_sum(pages, most):
    """The sum, over the pages, of how many entries are up to the end of the page, each time at most so many."""
    total = 0
    ahead = 0
    for span, times in pages:
        below = min(max((most - ahead) // span, 0), times)
        total += below * ahead + span * (below * (below + 1) // 2) + (times - below) * most
        ahead += span * times
    return total


def _sum_touched(index, level, length):
    """The sum of the numbers of pages that the ranges of a length touch."""
    pages = spans(kept_levels(index)[:level + 1])
    ranges = index.entries + 1 - length
    # Each range touches one page, and one more for each page that ends in it
    # ahead of its last entry. Behind e entries, this are as many ranges as the
    # lesser one of e and all ranges, less those that end up to there.
    ends = _capped_sum(pages, ranges) + _capped_sum(pages, length - 1) - _capped_sum(pages, index.entries)
    return ranges + ends


def touched_in_all(index, level, length):
    """The sum of the numbers of pages of a level that all ranges of so many entries touch."""
    _check_ranges(index, level, length)
    return _sum_touched(index, level, length)


def mean_touched(index, level, length):
    """How many pages of a level a range of so many entries touches in the mean: a tuple without a common divisor."""
    _check_ranges(index, level, length)
    total = _sum_touched(index, level, length)
    ranges = index.entries + 1 - length
    common = gcd(total, ranges)
    return (total // common, ranges // common)
