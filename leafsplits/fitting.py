"""Which rules agree with numbers of leaves that were seen during a load."""

from leafsplits.checks import is_between, is_list, is_pair
from leafsplits.errors import InvalidNumber, InvalidSeen
from leafsplits.parameters import UP, check_kind

MOST_SEEN = 20
MOST_COUNT = 10 ** 30
LEAST_ASKED = 3
MOST_ASKED = 1000


def _is_sight(item):
    """Whether a value is a tuple (entries, leaves)."""
    return is_pair(item) and is_between(item[0], 1, MOST_COUNT) and is_between(item[1], 1, MOST_COUNT)


def _check_seen(seen):
    """Raises InvalidSeen unless the value is a list of numbers of leaves that can be seen."""
    if not is_list(seen, 1, MOST_SEEN):
        raise InvalidSeen(None)
    for at, item in enumerate(seen):
        if not _is_sight(item):
            raise InvalidSeen(at)


def _parts(leaf, split):
    """The least and the greatest part that a split leaf of a rule may leave behind, if these leaves were seen.

    The leaf holds at most so many entries, and all leaves that were seen had
    been split. If there is no such part, the least one is above the greatest.
    """
    least = max(2, (leaf + 4) // 4)
    greatest = leaf + 1 - least
    for entries, leaves in split:
        # The first split makes two leaves, and each further part one more.
        behind = entries - leaf - 1
        least = max(least, behind // (leaves - 1) + 1)
        if leaves > 2:
            greatest = min(greatest, behind // (leaves - 2))
        if least > greatest:
            break
    return (least, greatest)


def fitting_rules(kind, seen, most):
    """The list of tuples (m, least, greatest): with a from the least to the greatest one a load has what was seen."""
    check_kind(kind)
    _check_seen(seen)
    if not is_between(most, LEAST_ASKED, MOST_ASKED):
        raise InvalidNumber("not an integer from 3 to 1,000")
    # A load has one leaf just as long as it is not above the m of the rule.
    split = [(entries, leaves) for entries, leaves in seen if leaves > 1]
    lowest = max([LEAST_ASKED] + [entries for entries, leaves in seen if leaves == 1])
    highest = min([most] + [entries - 1 for entries, _ in split])
    found = []
    for leaf in range(lowest, highest + 1):
        least, greatest = _parts(leaf, split)
        if least <= greatest:
            # Up, a split leaf leaves its first entries behind, down the others.
            parts = (least, greatest) if kind == UP else (leaf + 1 - greatest, leaf + 1 - least)
            found.append((leaf, *parts))
    return found
