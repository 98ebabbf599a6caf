"""In which sequence some runs are best."""

from leafsplits.checks import is_list
from leafsplits.climbs import levels_behind, pages_behind
from leafsplits.errors import InvalidRuns
from leafsplits.indexes import check_index, kept_levels
from leafsplits.parameters import check_any_level, is_run
from leafsplits.steps import behind_run

MOST_RUNS = 5


def _check_runs(index, runs):
    """Raises InvalidRuns unless the value is a list of runs that the index can take."""
    if not is_list(runs, 1, MOST_RUNS):
        raise InvalidRuns(None)
    for at, item in enumerate(runs):
        if not is_run(index, item):
            raise InvalidRuns(at)


def _moved(runs, done, at):
    """One of the runs, with its gap as it is behind those that are done."""
    kind, gap, number = runs[at]
    # Entries that were put at the same gap stand behind it.
    ahead = [runs[other][2] for other in done if runs[other][1] < gap]
    return (kind, gap + sum(ahead), number)


def _page_counts(index, runs, level):
    """How many pages the level has behind each sequence, ascending by these: tuples (pages, sequence)."""
    rule = index.rule
    items = range(len(runs))
    # The sequences that are begun, with the levels that they lead to. Those
    # above the asked one do not matter.
    begun = [(kept_levels(index)[:level + 1], [])]
    for _ in runs[1:]:
        begun = [(levels_behind(rule, levels, _moved(runs, done, at), level), [*done, at])
                 for levels, done in begun for at in items if at not in done]
    return [(pages_behind(rule, levels, _moved(runs, done, at), level), [*done, at])
            for levels, done in begun for at in items if at not in done]


def _check(index, runs, level):
    """Raises an error unless the values are an index, a list of its runs and a level that can be asked."""
    check_index(index)
    _check_runs(index, runs)
    check_any_level(level)


def _those_with(pages, counts):
    """The tuple (pages, how many, order) of the sequences with so many pages."""
    orders = [order for count, order in counts if count == pages]
    return (pages, len(orders), orders[0])


def least_order(index, runs, level):
    """The least number of pages of a level behind all runs, how many sequences have it, and the first of these."""
    _check(index, runs, level)
    counts = _page_counts(index, runs, level)
    return _those_with(min([pages for pages, _ in counts]), counts)


def most_order(index, runs, level):
    """The greatest number of pages of a level behind all runs, how many sequences have it, and the first of these."""
    _check(index, runs, level)
    counts = _page_counts(index, runs, level)
    return _those_with(max([pages for pages, _ in counts]), counts)


def commute(index, one, other):
    """Whether two runs lead to the same index in both sequences."""
    check_index(index)
    runs = [one, other]
    _check_runs(index, runs)
    behind = behind_run(behind_run(index, one), _moved(runs, [0], 1))
    return behind == behind_run(behind_run(index, other), _moved(runs, [1], 0))
