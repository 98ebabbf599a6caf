"""Rules and indexes as texts."""

from leafsplits.checks import is_decimal
from leafsplits.errors import InvalidLevels, InvalidRule, InvalidText
from leafsplits.indexes import PageIndex, check_index, kept_levels
from leafsplits.rules import Rule, check_rule

RULE_NUMBERS = 4


def show_rule(rule):
    """The text of a rule."""
    check_rule(rule)
    return f"{rule.leaf} {rule.leaf_stays} {rule.inner} {rule.inner_stays}"


def _shown(level):
    """The text of a level."""
    return " ".join([str(size) if times == 1 else f"{size}x{times}" for size, times in level])


def show_index(index):
    """The text of an index."""
    check_index(index)
    levels = " / ".join([_shown(level) for level in kept_levels(index)])
    return f"{show_rule(index.rule)}: {levels}"


def read_rule(text):
    """The rule with a text."""
    if not isinstance(text, str):
        raise InvalidText(None)
    parts = text.split(" ")
    for at, part in enumerate(parts):
        if not is_decimal(part):
            raise InvalidText(at)
    if len(parts) != RULE_NUMBERS:
        raise InvalidText(len(parts))
    numbers = [int(part) for part in parts]
    try:
        return Rule(*numbers)
    except InvalidRule:
        raise InvalidText(len(parts)) from None


def _read_first_part(text):
    """The rule that the part 0 of the text of an index tells."""
    try:
        return read_rule(text)
    except InvalidText:
        raise InvalidText(0) from None


def _is_group(word):
    """Whether a word has the form of a size, with or without times."""
    size, cross, times = word.partition("x")
    return is_decimal(size) and (cross == "" or is_decimal(times))


def _group(word):
    """The tuple (size, times) that a word tells."""
    size, cross, times = word.partition("x")
    return (int(size), int(times) if cross else 1)


def read_index(text):
    """The index with a text."""
    if not isinstance(text, str):
        raise InvalidText(None)
    head, colon, tail = text.partition(": ")
    if colon == "":
        raise InvalidText(0)
    rule = _read_first_part(head)
    levels = [part.split(" ") for part in tail.split(" / ")]
    for at, words in enumerate(levels):
        if not all([_is_group(word) for word in words]):
            raise InvalidText(at + 1)
    try:
        return PageIndex(rule, [[_group(word) for word in words] for words in levels])
    except InvalidLevels:
        raise InvalidText(len(levels) + 1) from None
