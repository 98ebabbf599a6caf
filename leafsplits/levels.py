"""One level of an index: a list of tuples (size, times), ascending by pages.

Pages are counted from 0, and so are the items of a level here: its entries,
or the pages of the level below. Each function goes over the tuples only, as
the pages may be far too many.
"""


def page_count(level):
    """How many pages a level has."""
    return sum([times for _, times in level])


def item_count(level):
    """How many items the pages of a level have together."""
    return sum([size * times for size, times in level])


def items_ahead(level, page):
    """How many items the pages ahead of a page have together."""
    items = 0
    for size, times in level:
        taken = min(times, page)
        items += size * taken
        page -= taken
    return items


def size_at(level, page):
    """The size of a page."""
    return items_ahead(level, page + 1) - items_ahead(level, page)


def page_with(level, item):
    """The page that holds an item of the level."""
    page = 0
    for size, times in level:
        if item < size * times:
            return page + item // size
        item -= size * times
        page += times
    return page


def page_ahead(level, gap):
    """The page with the item right ahead of a gap, or the first page for the gap 0."""
    return page_with(level, gap - 1) if gap > 0 else 0


def part(level, first, behind):
    """The pages from a first one on, up to one that is left out."""
    found = []
    page = 0
    for size, times in level:
        kept = min(page + times, behind) - max(page, first)
        if kept > 0:
            found.append((size, kept))
        page += times
    return found


def replaced(level, first, behind, groups):
    """The level with other pages instead of those from a first one on, up to one that stays."""
    return part(level, 0, first) + groups + part(level, behind, page_count(level))


def merged(level):
    """The same level, told as a new list with unlike sizes side by side, each at least once."""
    told = []
    for size, times in level:
        if told and told[-1][0] == size:
            told[-1] = (size, told[-1][1] + times)
        elif times > 0:
            told.append((size, times))
    return told
