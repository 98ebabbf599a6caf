"""Small indexes, page by page and entry by entry, to compare with."""

SOME_RULES = ((3, 2, 3, 2), (7, 2, 5, 3), (4, 3, 4, 2))

LEAF_SIZES = ([1], [3], [2, 3], [1, 1, 3, 2], [3, 3, 3, 1, 1, 2, 2, 2], [7, 4, 4, 1])
GROUPS = ([2], [3], [1, 3], [2, 1, 3, 3], [4, 1], [5, 2])


class Same:
    """Equals any value."""

    def __eq__(self, other):
        return True


NO_INTEGERS = (True, False, None, "", "1", "a", b"1", [], [1], (), (1,), {}, {1: 1}, {1}, object(),
               int, len, 1j, Same(), [[1]], ((1,),))


class Counted:
    """The sizes of all pages, a list for each level."""

    def __init__(self, sizes):
        self.sizes = sizes

    def height(self):
        return len(self.sizes)

    def entries(self):
        return sum(self.sizes[0])

    def apart(self):
        """The levels with a tuple for each page."""
        return [[(size, 1) for size in sizes] for sizes in self.sizes]

    def together(self):
        """The levels with neighbours of one size put together."""
        levels = []
        for sizes in self.sizes:
            level = []
            for size in sizes:
                if level and level[-1][0] == size:
                    level[-1] = (size, level[-1][1] + 1)
                else:
                    level.append((size, 1))
            levels.append(level)
        return levels

    def holders(self, level):
        """For each item of a level, the page that holds it."""
        found = []
        for page, size in enumerate(self.sizes[level]):
            found.extend([page] * size)
        return found

    def path(self, entry):
        found = []
        item = entry - 1
        for level in range(self.height()):
            item = self.holders(level)[item]
            found.append(item)
        return found


def grouped(leaves, groups):
    """The index of some leaves, whose pages above have sizes in a circle.

    Each level begins one further on in it: else pages of 1 might never end.
    """
    sizes = [leaves]
    while len(sizes[-1]) > 1:
        left = len(sizes[-1])
        level = []
        while left > 0:
            size = min(groups[(len(sizes) + len(level)) % len(groups)], left)
            level.append(size)
            left -= size
        sizes.append(level)
    return Counted(sizes)


def small_indexes(leaf, inner):
    """Indexes of one to twelve leaves with pages of at most these sizes."""
    found = []
    for many in range(1, 13):
        for circle in LEAF_SIZES:
            leaves = [min(circle[at % len(circle)], leaf) for at in range(many)]
            for groups in GROUPS:
                found.append(grouped(leaves, [min(size, inner) for size in groups]))
    return found
