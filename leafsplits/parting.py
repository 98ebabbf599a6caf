"""What parts two indexes by one rule."""

from leafsplits.climbs import split_insert
from leafsplits.errors import UnlikeRules
from leafsplits.indexes import check_index, kept_levels
from leafsplits.levels import page_count
from leafsplits.parameters import UP


def _check_alike(index, second):
    """Raises an error unless the values are two indexes by one rule."""
    check_index(index)
    check_index(second)
    if index.rule != second.rule:
        raise UnlikeRules("the indexes have unlike rules")


def _first_unlike(level, second):
    """The first page that is not the same in two levels that are unlike."""
    page = 0
    for (size, times), (other, repeats) in zip(level, second):
        if size != other:
            return page
        page += min(times, repeats)
        if times != repeats:
            return page
    return page


def _first_page(index, second):
    """The tuple (level, page) of the first page that is not the same, or None."""
    for at, (level, other) in enumerate(zip(kept_levels(index), kept_levels(second))):
        if level != other:
            return (at, _first_unlike(level, other))
    # The lowest level of one page is the last one, so none is left over.
    return None


def _page_counts(index):
    """How many pages each level has."""
    return [page_count(level) for level in kept_levels(index)]


def unlike_page(index, second):
    """The tuple (level, page) of the first page that is not the same, or None."""
    _check_alike(index, second)
    return _first_page(index, second)


def parting_run(index, second):
    """The tuple (gap, number) of the run up that parts the indexes, () if they are apart, or None."""
    _check_alike(index, second)
    found = _first_page(index, second)
    if found is None:
        return None
    if _page_counts(index) != _page_counts(second):
        return ()
    level, page = found
    gap = 0 if 0 in (index.entries, second.entries) else index.span(level, page)[0]
    # All below the page is the same in both, and so is what comes to it: the
    # one with more items is the first one that is split.
    moments = [split_insert(one, UP, gap, level, 1) for one in (index, second)]
    return (gap, min(moments))
