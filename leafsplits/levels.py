"""One level of an index: a list of tuples (size, times), ascending by pages.

Pages are counted from 0, and so are the items of a level here: its entries,
or the pages of the level below. Each function goes over the tuples only, as
the pages may be far too many.
"""


def page_count(level):
    """How many pages a level has."""
    return sum([times for _, times in level])


def item_count(level):
    """How many items the pages of a level have together."""
    return sum([size * times for size, times in level])


def items_ahead(level, page):
    """How many items the pages ahead of a page have together."""
    items = 0
    for size, times in level:
        taken = min(times, page)
        items += size * taken
        page -= taken
    return items


def size_at(level, page):
    """The size of a page."""
    at = 0
    while page >= level[at][1]:
        page -= level[at][1]
        at += 1
    return level[at][0]


def page_with(level, item):
    """The page that holds an item of the level."""
    page = 0
    for size, times in level:
        if item < size * times:
            return page + item // size
        item -= size * times
        page += times
    return page


def gap_place(level, gap):
    """The page with the item right ahead of a gap, or the first page for the gap 0.

    Returns the number of its tuple, the page, its number among those of the
    tuple, and how many of its items are ahead of the gap.
    """
    if gap == 0:
        return (0, 0, 0, 0)
    at = page = 0
    size, times = level[0]
    held = size * times
    while gap > held:
        gap -= held
        page += times
        at += 1
        size, times = level[at]
        held = size * times
    inside, ahead = divmod(gap - 1, size)
    return (at, page + inside, inside, ahead + 1)


def replaced(level, first, ahead, last, behind, pages):
    """The level with other pages instead of those of the tuples from a first to a last one.

    So many pages of the first tuple stay ahead of them, and so many of the last one behind them.
    """
    found = level[:first]
    if ahead > 0:
        found.append((level[first][0], ahead))
    size_ahead = found[-1][0] if found else None
    for group in pages:
        size, times = group
        if size == size_ahead:
            found[-1] = (size, found[-1][1] + times)
        elif times > 0:
            found.append(group)
            size_ahead = size
    next_size, next_times = level[last][0], behind
    if behind == 0 and last + 1 < len(level):
        last += 1
        next_size, next_times = level[last]
    if next_size == size_ahead:
        found[-1] = (size_ahead, found[-1][1] + next_times)
    elif next_times > 0:
        found.append((next_size, next_times))
    found += level[last + 1:]
    return found


def merged(level):
    """The same level, told as a new list with unlike sizes side by side."""
    told = []
    for size, times in level:
        if told and told[-1][0] == size:
            told[-1] = (size, told[-1][1] + times)
        else:
            told.append((size, times))
    return told


def _taken(rest, many):
    """How many entries so many pages hold; they are taken off the end of a list of tuples (entries, times)."""
    entries = 0
    while many > 0:
        held, times = rest.pop()
        some = min(times, many)
        entries += some * held
        many -= some
        if times > some:
            rest.append((held, times - some))
    return entries


def _held(below, level):
    """How many entries the pages of a level hold, if those of the level below hold so many."""
    found = []
    rest = below[::-1]
    for size, times in level:
        while times > 0:
            # At once as many pages as have children that all hold equally many.
            pages = max(min(rest[-1][1] // size, times), 1)
            found.append((_taken(rest, pages * size) // pages, pages))
            times -= pages
    return merged(found)


def spans(levels):
    """How many entries the pages of the highest one of these levels hold, told as a level is: (entries, times)."""
    found = levels[0]
    for level in levels[1:]:
        found = _held(found, level)
    return found
