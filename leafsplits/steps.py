"""Indexes behind runs and drops that are known to be valid ones."""

from leafsplits.climbs import levels_behind
from leafsplits.indexes import built_index, kept_levels, new_index
from leafsplits.levels import gap_place, replaced
from leafsplits.parameters import DROP


def behind_run(index, run):
    """The index behind a run, a tuple (kind, gap, number)."""
    levels = kept_levels(index)
    # Each insert brings at most one new level.
    highest = len(levels) + run[2]
    return built_index(index.rule, levels_behind(index.rule, levels, run, highest))


def _cut(level, first, behind):
    """The level without its items from a first one on, up to one that stays, and the pages that go.

    These, too, are told by the first one and by the one that stays behind them.
    """
    start, page, inside, placed = gap_place(level, first + 1)
    end, last, end_inside, gone = gap_place(level, behind)
    size, times = level[end]
    ahead, left = placed - 1, size - gone
    if page == last:
        ahead, left = ahead + left, 0
    begun, ended = min(ahead, 1), min(left, 1)
    told = replaced(level, start, inside, end, times - end_inside - 1, ((ahead, begun), (left, ended)))
    return (told, page + begun, last + 1 - ended)


def behind_drop(index, first, last):
    """The index behind a drop."""
    if first == 1 and last == index.entries:
        return new_index(index.rule)
    gone, behind = first - 1, last
    found = []
    for level in kept_levels(index):
        if gone < behind:
            told, gone, behind = _cut(level, gone, behind)
            found.append(told)
        else:
            found.append(level)
        # A level of one page is the root's.
        if len(found[-1]) == 1 and found[-1][0][1] == 1:
            break
    return built_index(index.rule, found)


def behind_step(index, step):
    """The index behind a step that it can take."""
    word, first, second = step
    if word == DROP:
        return behind_drop(index, first, second)
    return behind_run(index, step)
