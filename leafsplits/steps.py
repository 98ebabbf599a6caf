"""Indexes behind runs and drops that are known to be valid ones."""

from leafsplits.climbs import Climb
from leafsplits.indexes import built_index, new_index
from leafsplits.levels import items_ahead, page_count, page_with, replaced


def behind_run(index, kind, gap, number):
    """The index behind a run."""
    levels = index.levels
    grown = []
    climb = Climb(index, kind, gap)
    while climb.arrivals.many(number) > 0:
        grown.append(climb.told_behind(number))
        climb.go_up()
    return built_index(index.rule, grown + levels[len(grown):])


def _cut(level, first, behind):
    """The level without its items from a first one on, up to one that stays, and the pages that go.

    These, too, are told by the first one and by the one that stays behind them.
    """
    page, last = page_with(level, first), page_with(level, behind - 1)
    ahead = first - items_ahead(level, page)
    left = items_ahead(level, last + 1) - behind
    sizes = [ahead + left] if page == last else [ahead, left]
    kept = [(size, 1) for size in sizes if size > 0]
    gone = page + 1 if ahead > 0 else page
    many = last + 1 - page - len(kept)
    return (replaced(level, page, last + 1, kept), gone, gone + many)


def behind_drop(index, first, last):
    """The index behind a drop."""
    if first == 1 and last == index.entries:
        return new_index(index.rule)
    gone, behind = first - 1, last
    kept = []
    for level in index.levels:
        if gone == behind:
            kept.append(level)
        else:
            told, gone, behind = _cut(level, gone, behind)
            kept.append(told)
        if page_count(kept[-1]) == 1:
            break
    return built_index(index.rule, kept)
