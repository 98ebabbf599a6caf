"""An endless run, looked at on one level after the other, the leaves first."""

from leafsplits.indexes import kept_levels
from leafsplits.levels import gap_place, page_count, replaced
from leafsplits.parameters import UP
from leafsplits.progressions import far_item, steps_up_to
from leafsplits.rules import inner_part, page_form
from leafsplits.splitting import Splits, page_met


def _told(levels, at):
    """A level, also one that is not there yet: a page with one child, as the split of the root brings the second."""
    return levels[at] if at < len(levels) else [(1, 1)]


class Climb:
    """An endless run at one level; `splits` are those of the page that it is in there."""

    def __init__(self, index, kind, gap):
        self._rule = index.rule
        self._levels = kept_levels(index)
        self._up = kind == UP
        self._at = 0
        self._stand(gap, [])

    def _stand(self, gap, kinds):
        """Looks at the level, at which the run has this gap, and which gets items of these kinds first."""
        told = _told(self._levels, self._at)
        at, self._page, _, ahead = gap_place(told, gap)
        self.splits = Splits(kinds, self._up, page_form(self._rule, self._at), (ahead, told[at][0] - ahead))
        self._kinds = self.splits.kinds()

    def go_up(self):
        """Goes on to the next level."""
        self._at += 1
        # New pages are put right behind the page that the run is in.
        self._stand(self._page + 1, self._kinds)

    def is_even(self):
        """Whether all higher levels are new, and all their splits of the run's kind."""
        return self._at + 1 >= len(self._levels) and not self._kinds


def split_insert(index, kind, gap, level, count):
    """The insert with the so-manieth split of a level that need not be there yet."""
    climb = Climb(index, kind, gap)
    passed = [climb.splits]
    while len(passed) <= level and not climb.is_even():
        climb.go_up()
        passed.append(climb.splits)
    higher = level + 1 - len(passed)
    item = far_item(count, index.rule.inner, inner_part(index.rule, kind == UP), higher)
    for splits in passed[::-1]:
        item = splits.item_of(item)
    return item


def split_count(rule, levels, run, level):
    """How many splits a level that need not be there yet has in a run, a tuple (kind, gap, number)."""
    kind, gap, items = run
    up = kind == UP
    form, inner = page_form(rule, 0), page_form(rule, 1)
    kinds = []
    at = 0
    while at <= level and items > 0 and (at < len(levels) or kinds):
        told = _told(levels, at)
        place, page, _, ahead = gap_place(told, gap)
        _, items, kinds = page_met(kinds, up, form, ahead, told[place][0], items)
        gap = page + 1
        form = inner
        at += 1
    part = inner_part(rule, up)
    while at <= level and items > 0:
        items = steps_up_to(rule.inner, part, items)
        at += 1
    return items


def pages_behind(rule, levels, run, level):
    """How many pages a level has behind a run, a tuple (kind, gap, number); 0 if it is not there then."""
    if level < len(levels):
        return page_count(levels[level]) + split_count(rule, levels, run, level)
    if split_count(rule, levels, run, level - 1) == 0:
        return 0
    return 1 + split_count(rule, levels, run, level)


def levels_behind(rule, levels, run, top):
    """The levels behind a run, a tuple (kind, gap, number), up to a top one; higher ones are as they were."""
    kind, gap, items = run
    up = kind == UP
    form, inner = page_form(rule, 0), page_form(rule, 1)
    kinds = []
    found = []
    while items > 0 and len(found) <= top:
        told = _told(levels, len(found))
        place, page, inside, ahead = gap_place(told, gap)
        size, times = told[place]
        pages, items, kinds = page_met(kinds, up, form, ahead, size, items)
        found.append(replaced(told, place, inside, place, times - inside - 1, pages))
        gap = page + 1
        form = inner
    return found + levels[len(found):]
