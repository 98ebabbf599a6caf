"""How few and how many leaves any inserts make, each one at any place."""

from leafsplits.checks import is_between
from leafsplits.errors import InvalidLeaves
from leafsplits.indexes import check_index, kept_levels
from leafsplits.parameters import UP, check_number

MOST_LEAVES = 10 ** 60


def _check_leaves(leaves):
    """Raises InvalidLeaves unless the value is a number of leaves that can be asked."""
    if not is_between(leaves, 1, MOST_LEAVES):
        raise InvalidLeaves("not an integer from 1 to 10 ** 60")


def _fewest(index, number):
    """The least number of leaves behind so many inserts."""
    needed = (index.entries + number + index.rule.leaf - 1) // index.rule.leaf
    return max(needed, index.pages(0))


def _steady(rule):
    """The inserts that split the larger part of a leaf that was split."""
    return min(rule.leaf_stays, rule.leaf_goes)


def _cheap_splits(index):
    """The splits that take the fewest inserts: tuples (inserts, how many splits), the cheapest ones first.

    Behind all of these each split takes as many as `_steady` tells.
    """
    full, steady = index.rule.leaf + 1, _steady(index.rule)
    costs = sorted([(full - size, times) for size, times in kept_levels(index)[0]])
    cheap = [(cost, times) for cost, times in costs if cost < steady]
    # The first split is one of a leaf that is there, whatever it takes.
    return cheap if cheap else [(costs[0][0], 1)]


def _most(index, number):
    """The greatest number of leaves behind so many inserts."""
    found = index.pages(0)
    for cost, times in _cheap_splits(index):
        taken = min(times, number // cost)
        found += taken
        number -= taken * cost
        if taken < times:
            return found
    return found + number // _steady(index.rule)


def fewest_leaves(index, number):
    """How many leaves an index has at least behind so many inserts."""
    check_index(index)
    check_number(number)
    return _fewest(index, number)


def most_leaves(index, number):
    """How many leaves an index has at most behind so many inserts."""
    check_index(index)
    check_number(number)
    return _most(index, number)


def sure_from(index, leaves):
    """The least number of inserts behind which an index surely has at least so many leaves."""
    check_index(index)
    _check_leaves(leaves)
    if leaves <= index.pages(0):
        return 0
    return (leaves - 1) * index.rule.leaf + 1 - index.entries


def possible_from(index, leaves):
    """The least number of inserts behind which an index can have at least so many leaves."""
    check_index(index)
    _check_leaves(leaves)
    missing = max(leaves - index.pages(0), 0)
    number = 0
    for cost, times in _cheap_splits(index):
        taken = min(times, missing)
        number += taken * cost
        missing -= taken
    return number + missing * _steady(index.rule)


def _split_steps(rule, sizes, many):
    """The steps that split so many leaves with the fewest inserts; the sizes become those behind them."""
    steps = []
    for _ in range(many):
        largest = max(sizes)
        at = sizes.index(largest)
        steps.append((UP, sum(sizes[:at + 1]), rule.leaf + 1 - largest))
        sizes[at:at + 1] = [rule.leaf_stays, rule.leaf_goes]
    return steps


def _fill_steps(rule, sizes, number):
    """The steps that put so many entries into leaves of these sizes without a split."""
    steps = []
    entries = 0
    for size in sizes:
        entries += size
        taken = min(rule.leaf - size, number)
        if taken > 0:
            steps.append((UP, entries, taken))
            entries += taken
            number -= taken
    return steps


def leaves_script(index, number, leaves):
    """A list of runs up with so many entries that leads to so many leaves, or None if there is none."""
    check_index(index)
    check_number(number)
    _check_leaves(leaves)
    if not _fewest(index, number) <= leaves <= _most(index, number):
        return None
    # One step for each split and one for each leaf are at most 399 for 200 leaves.
    sizes = [size for size, times in kept_levels(index)[0] for _ in range(times)]
    steps = _split_steps(index.rule, sizes, leaves - len(sizes))
    number -= sum([inserts for _, _, inserts in steps])
    return steps + _fill_steps(index.rule, sizes, number)
