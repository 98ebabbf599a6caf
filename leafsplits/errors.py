"""The errors that the package raises."""


class PageError(ValueError):
    """Any error of the package."""


class InvalidRule(PageError):
    """No rule; `item` is the number of its first wrong number, or None."""

    def __init__(self, item):
        self.item = item


class InvalidLevels(PageError):
    """No levels of an index; `level` is the first wrong one, or None."""

    def __init__(self, level):
        self.level = level


class InvalidScript(PageError):
    """No script; `step` is its first wrong step, or None."""

    def __init__(self, step):
        self.step = step


class InvalidRuns(PageError):
    """No list of runs; `item` is its first wrong item, or None."""

    def __init__(self, item):
        self.item = item


class InvalidSeen(PageError):
    """No list of what was seen; `item` is its first wrong item, or None."""

    def __init__(self, item):
        self.item = item


class InvalidText(PageError):
    """No text of a rule or an index; `part` is its first wrong part, or None."""

    def __init__(self, part):
        self.part = part


class OverBudget(PageError):
    """More pages than the budget; `count` is how many there would be."""

    def __init__(self, count):
        self.count = count


class InvalidIndex(PageError):
    """No index."""


class InvalidKind(PageError):
    """No kind of a run."""


class InvalidGap(PageError):
    """No gap of the index."""


class InvalidNumber(PageError):
    """No valid number."""


class InvalidLevel(PageError):
    """No level of the index that can be asked."""


class InvalidPage(PageError):
    """No page of the level that can be asked."""


class InvalidEntry(PageError):
    """No entry of the index."""


class InvalidLength(PageError):
    """No length of a range."""


class InvalidHeight(PageError):
    """No height."""


class InvalidLeaves(PageError):
    """No number of leaves."""


class InvalidBudget(PageError):
    """No budget."""


class UnlikeRules(PageError):
    """Two indexes have unlike rules."""


class InvalidOperation(PageError):
    """No operation of a live index."""


class Nothing(PageError):
    """There is nothing to take back."""


class InvalidCommand(PageError):
    """No command of the console."""
