"""Indexes: pages of entries, and pages of pages above them."""

from leafsplits.checks import is_between, is_list, is_pair
from leafsplits.errors import InvalidEntry, InvalidIndex, InvalidLevel, InvalidLevels, InvalidPage
from leafsplits.levels import item_count, items_ahead, merged, page_count, page_with, size_at
from leafsplits.rules import check_rule, most_held

MOST_LEVELS = 100
MOST_TUPLES = 12
MOST_TIMES = 10 ** 30


def _is_group(group, most):
    """Whether a value is a tuple (size, times) with a size from 1 on."""
    return is_pair(group) and is_between(group[0], 1, most) and is_between(group[1], 1, MOST_TIMES)


def _is_level(level, most):
    """Whether a value tells pages of sizes from 1 on."""
    return is_list(level, 1, MOST_TUPLES) and all([_is_group(group, most) for group in level])


def _is_empty_leaf(level):
    """Whether a value tells one leaf of size 0."""
    if not is_list(level, 1, 1) or not is_pair(level[0]):
        return False
    size, times = level[0]
    # True and False equal 1 and 0, so the kinds are asked as well.
    return is_between(size, 0, 0) and is_between(times, 1, 1)


def _fits(rule, levels, level):
    """Whether a level is right, if all levels below it are."""
    if not _is_level(levels[level], most_held(rule, level)):
        return False
    if level > 0 and item_count(levels[level]) != page_count(levels[level - 1]):
        return False
    is_last = level == len(levels) - 1
    return (page_count(levels[level]) == 1) == is_last


def _check_levels(rule, levels):
    """Raises InvalidLevels unless the value tells the levels of an index."""
    if not is_list(levels, 1, MOST_LEVELS):
        raise InvalidLevels(None)
    if len(levels) == 1 and _is_empty_leaf(levels[0]):
        return
    for level in range(len(levels)):
        if not _fits(rule, levels, level):
            raise InvalidLevels(level)


class SoundLevels:
    """Levels that an index can have, told with unlike sizes side by side: they need not be checked again."""

    def __init__(self, told):
        self.told = told


def _told_levels(rule, levels):
    """The levels as an index keeps them; InvalidLevels unless the value tells the levels of an index."""
    if isinstance(levels, SoundLevels):
        return levels.told
    _check_levels(rule, levels)
    return [merged(level) for level in levels]


def check_level(level, least, most):
    """Raises InvalidLevel unless the value is a level between these two."""
    if not is_between(level, least, most):
        raise InvalidLevel("not a level of the index, or not one that can be asked")


def _check_page(told, page):
    """Raises InvalidPage unless the value is a page of the told level."""
    if not is_between(page, 0, page_count(told) - 1):
        raise InvalidPage("not a page of the level")


class PageIndex:
    """A rule, and the pages of each level."""

    def __init__(self, rule, levels):
        check_rule(rule)
        self._rule = rule
        self._levels = _told_levels(rule, levels)
        self._entries = item_count(self._levels[0])

    @property
    def rule(self):
        """The rule."""
        return self._rule

    @property
    def levels(self):
        """The list of the levels, each a list of tuples (size, times)."""
        return [list(level) for level in self._levels]

    @property
    def entries(self):
        """The number of entries."""
        return self._entries

    @property
    def height(self):
        """The number of levels."""
        return len(self._levels)

    def __eq__(self, other):
        return (isinstance(other, PageIndex)
                and self._rule == other._rule
                and self._levels == other._levels)

    def pages(self, level):
        """How many pages a level has."""
        check_level(level, 0, self.height - 1)
        return page_count(self._levels[level])

    def size(self, level, page):
        """How many entries, or children, a page has."""
        check_level(level, 0, self.height - 1)
        _check_page(self._levels[level], page)
        return size_at(self._levels[level], page)

    def above(self, level, page):
        """The page of the next level that holds a page."""
        check_level(level, 0, self.height - 2)
        _check_page(self._levels[level], page)
        return page_with(self._levels[level + 1], page)

    def child(self, level, page):
        """The first child of a page."""
        check_level(level, 1, self.height - 1)
        _check_page(self._levels[level], page)
        return items_ahead(self._levels[level], page)

    def span(self, level, page):
        """The tuple of the first and the last entry below a page."""
        check_level(level, 0, self.height - 1)
        _check_page(self._levels[level], page)
        if self.entries == 0:
            raise InvalidPage("the index has no entries")
        first, behind = page, page + 1
        for told in self._levels[level::-1]:
            first = items_ahead(told, first)
            behind = items_ahead(told, behind)
        return (first + 1, behind)

    def path(self, entry):
        """The list of the pages of all levels that hold an entry."""
        if not is_between(entry, 1, self.entries):
            raise InvalidEntry("not an entry of the index")
        found = []
        page = entry - 1
        for told in self._levels:
            page = page_with(told, page)
            found.append(page)
        return found


def new_index(rule):
    """The index without entries."""
    return PageIndex(rule, [[(0, 1)]])


def kept_levels(index):
    """The levels of an index as it keeps them: only to be read."""
    return index._levels


def built_index(rule, levels):
    """The index with levels that an index can have, told with unlike sizes side by side; nobody changes them later."""
    return PageIndex(rule, SoundLevels(levels))


def check_index(index):
    """Raises InvalidIndex unless the value is a PageIndex."""
    if not isinstance(index, PageIndex):
        raise InvalidIndex("not a PageIndex")
