"""A live index that takes commands and answers with texts."""

from leafsplits.checks import is_decimal
from leafsplits.errors import InvalidCommand
from leafsplits.indexes import new_index
from leafsplits.inserts import fewest_leaves, most_leaves
from leafsplits.live import LiveIndex
from leafsplits.ranges import touched
from leafsplits.rules import Rule
from leafsplits.texts import read_index, read_rule, show_index

DONE = "ok"
INDEX = "index "
RULE = "rule "


def _up(live, numbers):
    """Does a run up."""
    gap, number = numbers
    live.run("up", gap, number)
    return DONE


def _down(live, numbers):
    """Does a run down."""
    gap, number = numbers
    live.run("down", gap, number)
    return DONE


def _drop(live, numbers):
    """Does a drop."""
    first, last = numbers
    live.drop(first, last)
    return DONE


def _undo(live, _):
    """Takes back the last call."""
    live.undo()
    return DONE


def _show(live, _):
    """The text of the index."""
    return show_index(live.present)


def _entries(live, _):
    """The number of entries."""
    return str(live.present.entries)


def _height(live, _):
    """The number of levels."""
    return str(live.present.height)


def _pages(live, numbers):
    """How many pages a level has."""
    return str(live.present.pages(numbers[0]))


def _path(live, numbers):
    """The pages that hold an entry."""
    return " ".join([str(page) for page in live.present.path(numbers[0])])


def _fewest(live, numbers):
    """How many leaves there are at least behind so many inserts."""
    return str(fewest_leaves(live.present, numbers[0]))


def _most(live, numbers):
    """How many leaves there are at most behind so many inserts."""
    return str(most_leaves(live.present, numbers[0]))


def _touched(live, numbers):
    """How many pages of a level a range touches."""
    level, first, last = numbers
    return str(touched(live.present, level, first, last))


ACTIONS = {"up": _up, "down": _down, "drop": _drop, "undo": _undo, "show": _show, "entries": _entries,
           "height": _height, "pages": _pages, "path": _path, "fewest": _fewest, "most": _most, "touched": _touched}
NUMBERS = {"up": 2, "down": 2, "drop": 2, "undo": 0, "show": 0, "entries": 0,
           "height": 0, "pages": 1, "path": 1, "fewest": 1, "most": 1, "touched": 3}


def _is_number(word):
    """Whether a word is a number, with a sign in front if it is below 0."""
    digits = word[1:] if word.startswith("-") else word
    return is_decimal(digits) and word != "-0"


def _is_command(words):
    """Whether the words are one of the actions and as many numbers as it takes."""
    if words[0] not in ACTIONS or len(words) != NUMBERS[words[0]] + 1:
        return False
    return all([_is_number(word) for word in words[1:]])


class Console:
    """A live index that takes commands, at first without entries."""

    def __init__(self):
        self._live = LiveIndex(new_index(Rule(3, 2, 3, 2)))

    def execute(self, command):
        """Performs a command and returns its answer."""
        if not isinstance(command, str):
            raise InvalidCommand("not a string")
        if command.startswith(INDEX):
            self._live = LiveIndex(read_index(command[len(INDEX):]))
            return DONE
        if command.startswith(RULE):
            self._live = LiveIndex(new_index(read_rule(command[len(RULE):])))
            return DONE
        words = command.split(" ")
        if not _is_command(words):
            raise InvalidCommand("not one of the commands")
        action = ACTIONS[words[0]]
        return action(self._live, [int(word) for word in words[1:]])
