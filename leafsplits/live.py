"""Indexes that are changed, with undo, and with a budget of pages."""

from leafsplits.checks import is_integer, is_word
from leafsplits.errors import InvalidBudget, InvalidOperation, Nothing, OverBudget
from leafsplits.indexes import check_index, kept_levels
from leafsplits.levels import page_count
from leafsplits.parameters import DROP, WORDS, check_kind
from leafsplits.runs import behind_call


def _all_pages(index):
    """How many pages all levels of an index have together."""
    return sum([page_count(level) for level in kept_levels(index)])


def _check_operations(steps):
    """Raises InvalidOperation unless each value has the form of a step."""
    for step in steps:
        if not isinstance(step, tuple) or len(step) != 3 or not is_word(step[0], WORDS):
            raise InvalidOperation("not a tuple of up, down or drop and two further items")


def _check_budget(budget, index):
    """Raises OverBudget if the index has more pages than the budget."""
    count = _all_pages(index)
    if count > budget:
        raise OverBudget(count)


class LiveIndex:
    """An index that is changed."""

    def __init__(self, index):
        check_index(index)
        self._budget = None
        self._steps = []
        # The index at first, and behind each of the steps.
        self._indexes = [index]

    @property
    def present(self):
        """The index now."""
        return self._indexes[-1]

    def __eq__(self, other):
        return (isinstance(other, LiveIndex)
                and self._budget == other._budget
                and self._indexes[-1] == other._indexes[-1])

    def _behind(self, index, step):
        """The index behind a step; the errors of the call."""
        return behind_call(index, step)

    def _take(self, step):
        """Does a call that is told as a step."""
        self._indexes.append(self._behind(self._indexes[-1], step))
        self._steps.append(step)

    def run(self, kind, gap, number):
        """Does a run."""
        # The word of a drop makes a step, but it is no kind.
        check_kind(kind)
        self._take((kind, gap, number))

    def drop(self, first, last):
        """Takes out the entries from a first to a last one."""
        self._take((DROP, first, last))

    def undo(self):
        """Takes back the last run or drop that is not taken back yet."""
        if not self._steps:
            raise Nothing("there is no call to take back")
        self._steps.pop()
        self._indexes.pop()

    def log(self):
        """The list of the runs and drops that are not taken back, as steps."""
        return list(self._steps)

    def all_pages(self):
        """How many pages all levels have together."""
        return _all_pages(self._indexes[-1])

    def preview(self, *steps):
        """How many pages there would be behind some steps."""
        _check_operations(steps)
        index = self._indexes[-1]
        for step in steps:
            index = self._behind(index, step)
        return _all_pages(index)


class BudgetIndex(LiveIndex):
    """An index that is changed, but never has more pages than its budget."""

    def __init__(self, index, budget):
        LiveIndex.__init__(self, index)
        if not is_integer(budget) or budget < 1:
            raise InvalidBudget("not an integer from 1 on")
        _check_budget(budget, index)
        self._budget = budget

    @property
    def budget(self):
        """The greatest number of pages."""
        return self._budget

    def _behind(self, index, step):
        """The index behind a step; the errors of the call, and then the one of the budget."""
        behind = behind_call(index, step)
        _check_budget(self._budget, behind)
        return behind
