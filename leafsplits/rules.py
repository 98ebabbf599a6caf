"""The rules by which full pages are split."""

from leafsplits.checks import is_between, is_integer
from leafsplits.errors import InvalidRule

LEAST_HELD = 3
MOST_HELD = 10 ** 30


def _can_hold(held):
    """Whether a page of a rule may hold at most so many items."""
    return is_between(held, LEAST_HELD, MOST_HELD)


def _can_stay(held, stays):
    """Whether so many of the items may stay in a page that has one too many."""
    if not is_integer(stays):
        return False
    smaller = min(stays, held + 1 - stays)
    return smaller >= 2 and 4 * smaller >= held + 1


class Rule:
    """How many items the pages hold, and how many stay where a page is split."""

    def __init__(self, leaf, leaf_stays, inner, inner_stays):
        if not _can_hold(leaf):
            raise InvalidRule(0)
        if not _can_stay(leaf, leaf_stays):
            raise InvalidRule(1)
        if not _can_hold(inner):
            raise InvalidRule(2)
        if not _can_stay(inner, inner_stays):
            raise InvalidRule(3)
        self._leaf = leaf
        self._leaf_stays = leaf_stays
        self._inner = inner
        self._inner_stays = inner_stays

    @property
    def leaf(self):
        """How many entries a leaf holds at most."""
        return self._leaf

    @property
    def leaf_stays(self):
        """How many entries stay in a leaf that is split."""
        return self._leaf_stays

    @property
    def leaf_goes(self):
        """How many entries of a leaf that is split go to the new one."""
        return self._leaf + 1 - self._leaf_stays

    @property
    def inner(self):
        """How many children a page above the leaves holds at most."""
        return self._inner

    @property
    def inner_stays(self):
        """How many children stay in a page that is split."""
        return self._inner_stays

    @property
    def inner_goes(self):
        """How many children of a page that is split go to the new one."""
        return self._inner + 1 - self._inner_stays

    def __eq__(self, other):
        return (isinstance(other, Rule)
                and self._leaf == other._leaf
                and self._leaf_stays == other._leaf_stays
                and self._inner == other._inner
                and self._inner_stays == other._inner_stays)


def check_rule(rule):
    """Raises InvalidRule(None) unless the value is a Rule."""
    if not isinstance(rule, Rule):
        raise InvalidRule(None)


def most_held(rule, level):
    """How many items a page of a level holds at most."""
    return rule.leaf if level == 0 else rule.inner


def page_form(rule, level):
    """How many items a page of a level holds at most, and how many stay where it is split."""
    return (rule.leaf, rule.leaf_stays) if level == 0 else (rule.inner, rule.inner_stays)


def leaf_part(rule, up):
    """How many entries a leaf has that a run from nothing leaves behind."""
    return rule.leaf_stays if up else rule.leaf_goes


def inner_part(rule, up):
    """How many children a page above has that a run from nothing leaves behind."""
    return rule.inner_stays if up else rule.inner_goes
