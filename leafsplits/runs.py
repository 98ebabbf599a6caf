"""Runs and drops, and scripts of them."""

from leafsplits.checks import is_list, is_word
from leafsplits.errors import InvalidScript
from leafsplits.indexes import check_index
from leafsplits.parameters import DROP, check_entries, check_gap, check_kind, check_number, is_step
from leafsplits.steps import behind_drop, behind_run, behind_step

MOST_STEPS = 12


def run(index, kind, gap, number):
    """The index behind a run."""
    check_index(index)
    check_kind(kind)
    check_gap(index, gap)
    check_number(number)
    return behind_run(index, (kind, gap, number))


def dropped(index, first, last):
    """The index behind a drop."""
    check_index(index)
    check_entries(index, first, last)
    return behind_drop(index, first, last)


def behind_call(index, step):
    """The index behind a step that may be no valid one, with the errors of run and dropped."""
    word, first, second = step
    if is_word(word, (DROP,)):
        return dropped(index, first, second)
    return run(index, word, first, second)


def played(index, script):
    """The index behind a script."""
    check_index(index)
    if not is_list(script, 0, MOST_STEPS):
        raise InvalidScript(None)
    present = index
    for at, step in enumerate(script):
        if not is_step(present, step):
            raise InvalidScript(at)
        present = behind_step(present, step)
    return present
