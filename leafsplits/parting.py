"""What parts two indexes by one rule."""

from leafsplits.climbs import climbed
from leafsplits.errors import UnlikeRules
from leafsplits.indexes import check_index
from leafsplits.levels import page_count


def _check_alike(index, second):
    """Raises an error unless the values are two indexes by one rule."""
    check_index(index)
    check_index(second)
    if index.rule != second.rule:
        raise UnlikeRules("the indexes have unlike rules")


def _first_unlike(level, second):
    """The first page that is not the same in two levels that are unlike."""
    page = 0
    for (size, times), (other, repeats) in zip(level, second):
        if size != other:
            return page
        page += min(times, repeats)
        if times != repeats:
            return page
    return page


def _first_page(index, second):
    """The tuple (level, page) of the first page that is not the same, or None."""
    for at, (level, other) in enumerate(zip(index.levels, second.levels)):
        if level != other:
            return (at, _first_unlike(level, other))
    # The lowest level of one page is the last one, so none is left over.
    return None


def unlike_page(index, second):
    """The tuple (level, page) of the first page that is not the same, or None."""
    _check_alike(index, second)
    return _first_page(index, second)


def parting_run(index, second):
    """The tuple (gap, number) of the run up that parts the indexes, () if they are apart, or None."""
    _check_alike(index, second)
    found = _first_page(index, second)
    if found is None:
        return None
    if [page_count(level) for level in index.levels] != [page_count(level) for level in second.levels]:
        return ()
    level, page = found
    gap = 0 if 0 in (index.entries, second.entries) else index.span(level, page)[0]
    # All below the page is the same in both, and so is what comes to it: the
    # one with more items is the first one that is split.
    moments = [climbed(one, "up", gap, level).splits.moment(1) for one in (index, second)]
    return (gap, min(moments))
