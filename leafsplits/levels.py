"""One level of an index: a list of tuples (size, times), ascending by pages.

Pages are counted from 0, and so are the items of a level here: its entries,
or the pages of the level below. Each function goes over the tuples only, as
the pages may be far too many.
"""


def page_count(level):
    """How many pages a level has."""
    return sum([times for _, times in level])


def item_count(level):
    """How many items the pages of a level have together."""
    return sum([size * times for size, times in level])


def items_ahead(level, page):
    """How many items the pages ahead of a page have together."""
    items = 0
    for size, times in level:
        taken = min(times, page)
        items += size * taken
        page -= taken
    return items


def size_at(level, page):
    """The size of a page."""
    return items_ahead(level, page + 1) - items_ahead(level, page)


def page_with(level, item):
    """The page that holds an item of the level."""
    page = 0
    for size, times in level:
        if item < size * times:
            return page + item // size
        item -= size * times
        page += times
    return page


def merged(level):
    """The same level, told as a new list with unlike sizes side by side."""
    told = []
    for size, times in level:
        if told and told[-1][0] == size:
            told[-1] = (size, told[-1][1] + times)
        else:
            told.append((size, times))
    return told
