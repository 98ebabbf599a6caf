"""A run that never ends, looked at on one level after the other."""

from leafsplits.arrivals import Arrivals
from leafsplits.levels import items_ahead, page_ahead, replaced, size_at
from leafsplits.rules import goes, most_held, stays


class Climb:
    """A run at one level of an index, first at its leaves.

    `arrivals` are the inserts at which the level gets an item, `splits` those
    at which one of its pages is split.
    """

    def __init__(self, index, kind, gap):
        self._rule = index.rule
        self._levels = index.levels
        self._at = 0
        self._stand(Arrivals([], kind, 1, 1), gap)

    def _stand(self, arrivals, gap):
        """Looks at the level, at which the run has this gap."""
        # A level that is not there yet is one page with one child: the split
        # of the root below gives it the second child.
        is_there = self._at < len(self._levels)
        self._told = self._levels[self._at] if is_there else [(1, 1)]
        self._page = page_ahead(self._told, gap)
        self._size = size_at(self._told, self._page)
        ahead = gap - items_ahead(self._told, self._page)
        most, stay = most_held(self._rule, self._at), stays(self._rule, self._at)
        self.arrivals = arrivals
        self.splits = arrivals.passed_on(most, stay, ahead, self._size - ahead)

    def go_up(self):
        """Goes on to the next level."""
        self._at += 1
        # New pages are put right behind the page that the run is in.
        self._stand(self.splits, self._page + 1)

    def told_behind(self, number):
        """The level behind so many inserts."""
        stay, go = stays(self._rule, self._at), goes(self._rule, self._at)
        right = self.splits.many_of("up", number)
        left = self.splits.many_of("down", number)
        size = self._size + self.arrivals.many(number) - right * stay - left * go
        # The part of a split page that the run leaves gets no more items, and
        # it is next to the page that the run is in.
        pages = [(stay, right), (size, 1), (go, left)]
        return replaced(self._told, self._page, self._page + 1, pages)


def climbed(index, kind, gap, level):
    """A run at a level that need not be there yet."""
    climb = Climb(index, kind, gap)
    for _ in range(level):
        climb.go_up()
    return climb
