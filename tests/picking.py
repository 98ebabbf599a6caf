"""Rules and indexes of all kinds, the same ones in each run of the tests."""


class Picks:
    """Numbers that are spread well, and depend on the seed alone."""

    def __init__(self, seed):
        self.state = seed * 2 + 1

    def among(self, least, most):
        """A number from the least to the most one."""
        self.state = (self.state * 6364136223846793005 + 1442695040888963407) % 2 ** 64
        high = self.state >> 16
        return least + (high * 2 ** 60 + high) % (most - least + 1)

    def great(self, least, most):
        """A number from the least to the most one, of any number of digits."""
        bits = self.among(0, (most - least).bit_length())
        return least + min(self.among(0, 2 ** bits), most - least)

    def one(self, values):
        """One of some values."""
        return values[self.among(0, len(values) - 1)]


class EvenPicks(Picks):
    """Picks that are spread evenly in ranges of any length: those above always give the least one of 17 or 241."""

    def among(self, least, most):
        """A number from the least to the most one."""
        number = 0
        for _ in range((most - least).bit_length() // 32 + 2):
            self.state = (self.state * 6364136223846793005 + 1442695040888963407) % 2 ** 64
            number = number * 2 ** 32 + (self.state >> 32)
        return least + number % (most - least + 1)


def partings(held):
    """How many of one item too many may stay in a page."""
    return [stays for stays in range(2, held) if 4 * stays >= held + 1 and 4 * (held + 1 - stays) >= held + 1]


def all_rules(least, most):
    """The numbers of all rules whose pages hold from the least to the most number of items."""
    halves = [(held, stays) for held in range(least, most + 1) for stays in partings(held)]
    return [leaf + inner for leaf in halves for inner in halves]


def some_levels(picks, numbers, leaves):
    """The levels of an index of so many leaves of any sizes, some of them full."""
    leaf, _, inner, _ = numbers
    if leaves == 0:
        return [[(0, 1)]]
    full = picks.among(0, 3)
    levels = [[(leaf if full == 0 else picks.among(1, leaf), 1) for _ in range(leaves)]]
    while len(levels[-1]) > 1:
        left = len(levels[-1])
        level = []
        while left > 0:
            size = min(left, inner if full <= 1 else picks.among(1, inner))
            level.append((size, 1))
            left -= size
        # Pages of one child are welcome, but they must not go on for ever.
        if len(level) < len(levels[-1]) or len(levels) < 4:
            levels.append(level)
    return levels


def some_step(picks, entries, most):
    """A step for an index with so many entries; a run has at most so many."""
    if entries > 0 and picks.among(0, 2) == 0:
        first = picks.great(1, entries)
        return ("drop", first, picks.great(first, entries))
    return (picks.one(("up", "down")), picks.great(0, entries), picks.great(1, most))


def great_rule(picks):
    """The numbers of a rule whose pages hold any numbers of items up to 10 ** 30."""
    numbers = ()
    for _ in range(2):
        held = picks.great(3, 10 ** 30)
        least = max(2, (held + 4) // 4)
        numbers += (held, picks.one((least, held + 1 - least, picks.among(least, held + 1 - least))))
    return numbers


def great_levels(picks, numbers):
    """The levels of an index with very many pages of several sizes."""
    leaf, _, inner, _ = numbers
    levels = [[(picks.one((leaf, picks.great(1, leaf))), picks.great(1, 10 ** 30)) for _ in range(picks.among(1, 4))]]
    pages = sum(times for _, times in levels[0])
    while pages > 1:
        level = []
        left = pages
        while left > 0:
            size = min(left, picks.one((inner, inner, picks.great(2, inner))))
            times = left // size
            if len(level) < 3:
                times = picks.great(1, times)
            level.append((size, times))
            left -= size * times
        levels.append(level)
        pages = sum(times for _, times in level)
    return levels


def full_path_levels(height):
    """The levels of an index by a rule (3, 2, 3, 2) in which the first page of each level is full."""
    return [[(3, 1), (1, 2 * (height - at) - 2)][:1 + (at < height - 1)] for at in range(height)]
