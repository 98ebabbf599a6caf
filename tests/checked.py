"""What several tests ask: sound indexes, the right errors, answers that are given at once."""

import copy
import sys
import unittest

from counting import NO_INTEGERS, Counted, Same
from leafsplits import errors
from leafsplits.indexes import PageIndex
from leafsplits.rules import Rule

MOST_LINES = 200000
FIELDS = {errors.InvalidRule: "item", errors.InvalidLevels: "level", errors.InvalidScript: "step",
          errors.InvalidRuns: "item", errors.InvalidSeen: "item", errors.InvalidText: "part",
          errors.OverBudget: "count"}

NO_RULES = NO_INTEGERS + (0, 3, (3, 2, 3, 2), [3, 2, 3, 2], "3 2 3 2", Rule,
                          PageIndex(Rule(3, 2, 3, 2), [[(3, 1)]]))
NO_INDEXES = NO_INTEGERS + (0, 3, [[(3, 1)]], ([(3, 1)],), "3 2 3 2: 3", Rule(3, 2, 3, 2), PageIndex)
NO_KINDS = NO_INTEGERS + (0, 1, "Up", "UP", "Down", "DOWN", " up", "up ", "up\n", "u", "updown", "drop",
                          "up down", b"up", ("up",), ["up"], ["down"], ("up", "down"), {"up": 1})


def numbers_beyond(least, most):
    """Values that are no integers from the least to the most one."""
    return NO_INTEGERS + (least - 1, least - 10 ** 40, most + 1, most + 10 ** 40, -most - 1, 10 ** 999,
                          str(least), [least], (least,))


def no_rule():
    return [(value, errors.InvalidRule) for value in NO_RULES]


def no_index():
    return [(value, errors.InvalidIndex) for value in NO_INDEXES]


def no_kind():
    return [(value, errors.InvalidKind) for value in NO_KINDS]


def no_gap(entries):
    return [(value, errors.InvalidGap) for value in numbers_beyond(0, entries)]


def no_number(most=10 ** 30):
    return [(value, errors.InvalidNumber) for value in numbers_beyond(1, most)]


def no_level(most=200):
    return [(value, errors.InvalidLevel) for value in numbers_beyond(0, most)]


def no_entry(least, most):
    return [(value, errors.InvalidEntry) for value in numbers_beyond(least, most)]


def seen(value):
    """What a value tells of itself, to be compared later."""
    if isinstance(value, PageIndex):
        return (value.rule.leaf, value.rule.leaf_stays, value.rule.inner, value.rule.inner_stays, value.levels)
    if isinstance(value, Rule):
        return (value.leaf, value.leaf_stays, value.inner, value.inner_stays)
    if isinstance(value, (list, tuple)):
        return (type(value), [seen(item) for item in value])
    if isinstance(value, (Same, type)) or type(value) is object or callable(value):
        return id(value)
    return copy.deepcopy(value)


def told(model):
    """The levels of a model, as an index tells them."""
    return Counted(model.sizes()).together()


class Checked(unittest.TestCase):
    def at_once(self, function, *parameters):
        """What a function returns, if it does not go through too many lines for it."""
        return self.within(MOST_LINES, function, *parameters)

    def within(self, most, function, *parameters):
        """What a function returns, if it goes through at most so many lines, calls and returns for it."""
        lines = 0

        def trace(frame, event, argument):
            nonlocal lines
            lines += 1
            if lines > most:
                raise AssertionError("this takes too long")
            return trace

        before = sys.gettrace()
        sys.settrace(trace)
        try:
            return function(*parameters)
        finally:
            sys.settrace(before)

    def assert_sound(self, index, entries):
        """Whether an index of so many entries has the form that the document tells."""
        rule, levels = index.rule, index.levels
        self.assertTrue(index.entries == entries, "the entries")
        if entries == 0:
            self.assertEqual(levels, [[(0, 1)]])
            return
        items = entries
        for at, level in enumerate(levels):
            most = rule.inner if at else rule.leaf
            self.assertTrue(all(type(group) is tuple and len(group) == 2 for group in level))
            self.assertTrue(all(1 <= size <= most and times >= 1 for size, times in level), "the sizes")
            self.assertTrue(all(one[0] != other[0] for one, other in zip(level, level[1:])), "the neighbours")
            self.assertTrue(sum(size * times for size, times in level) == items, "the items")
            items = sum(times for _, times in level)
            self.assertEqual(items == 1, at == len(levels) - 1)

    def assert_raises(self, error, field, function, parameters):
        """Whether a call raises just this error with its field, and changes nothing."""
        before = [seen(value) for value in parameters]
        with self.assertRaises(errors.PageError) as caught:
            function(*parameters)
        self.assertIs(type(caught.exception), error, (function, parameters))
        if error in FIELDS:
            told_field = getattr(caught.exception, FIELDS[error])
            self.assertEqual((type(told_field), told_field), (type(field), field), (function, parameters))
        self.assertTrue([seen(value) for value in parameters] == before, (function, parameters))

    def assert_wrong(self, function, *parameters):
        """Whether the first wrong parameter tells the error.

        Each parameter is a valid value and a list of tuples (wrong value, error).
        """
        valid = [value for value, _ in parameters]
        bad = [wrong[0][0] for _, wrong in parameters]
        function(*valid)
        for at, (_, wrong) in enumerate(parameters):
            for value, error in wrong:
                for end in range(at + 1, len(parameters) + 1):
                    self.assert_raises(error, None, function, [*valid[:at], value, *valid[at + 1:end], *bad[end:]])
