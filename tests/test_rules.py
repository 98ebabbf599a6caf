import unittest

from counting import NO_INTEGERS, Same
from leafsplits import rules
from leafsplits.errors import InvalidRule
from leafsplits.rules import Rule

MOST = 10 ** 30


def numbers(rule):
    return [rule.leaf, rule.leaf_stays, rule.leaf_goes,
            rule.inner, rule.inner_stays, rule.inner_goes]


class RuleTest(unittest.TestCase):
    def wrong(self, item, *four):
        with self.assertRaises(InvalidRule) as caught:
            Rule(*four)
        self.assertIs(type(caught.exception), InvalidRule)
        self.assertEqual(caught.exception.item, item)

    def right(self, *four):
        leaf, leaf_stays, inner, inner_stays = four
        self.assertEqual(numbers(Rule(*four)), [leaf, leaf_stays, leaf + 1 - leaf_stays,
                                                inner, inner_stays, inner + 1 - inner_stays])

    def test_properties(self):
        self.assertEqual(numbers(Rule(3, 2, 3, 2)), [3, 2, 2, 3, 2, 2])
        self.assertEqual(numbers(Rule(9, 3, 12, 8)), [9, 3, 7, 12, 8, 5])
        self.assertEqual(numbers(Rule(4, 3, 7, 2)), [4, 3, 2, 7, 2, 6])

    def test_all_small_rules(self):
        for held in range(3, 30):
            for stays in range(-1, held + 3):
                goes = held + 1 - stays
                if stays >= 2 and goes >= 2 and 4 * stays >= held + 1 and 4 * goes >= held + 1:
                    self.right(held, stays, 3, 2)
                    self.right(3, 2, held, stays)
                else:
                    self.wrong(1, held, stays, 3, 2)
                    self.wrong(3, 3, 2, held, stays)

    def test_greatest_rules(self):
        # A fourth of 10 ** 30 + 1 is no integer, one of 10 ** 30 is one.
        self.right(MOST, MOST // 4 + 1, MOST, MOST // 4 * 3)
        self.right(MOST, MOST // 4 * 3, MOST, MOST // 4 + 1)
        self.wrong(1, MOST, MOST // 4, MOST, MOST // 2)
        self.wrong(1, MOST, MOST // 4 * 3 + 1, MOST, MOST // 2)
        self.wrong(3, MOST, MOST // 2, MOST, MOST // 4)
        self.wrong(3, MOST, MOST // 2, MOST, MOST // 4 * 3 + 1)
        self.right(MOST - 1, MOST // 4, MOST - 1, MOST // 4 * 3)
        self.right(MOST - 1, MOST // 4 * 3, MOST - 1, MOST // 4)
        self.wrong(1, MOST - 1, MOST // 4 - 1, 3, 2)
        self.wrong(1, MOST - 1, MOST // 4 * 3 + 1, 3, 2)
        self.wrong(3, 3, 2, MOST - 1, MOST // 4 - 1)
        self.wrong(3, 3, 2, MOST - 1, MOST // 4 * 3 + 1)

    def test_most_held(self):
        for held in (2, 1, 0, -3, MOST + 1, 10 ** 99, -10 ** 900):
            self.wrong(0, held, 2, 3, 2)
            self.wrong(0, held, held // 2, 3, 2)
            self.wrong(2, 3, 2, held, 2)
            self.wrong(2, 3, 2, held, held // 2)

    def test_other_kinds(self):
        for value in NO_INTEGERS:
            self.wrong(0, value, 2, 3, 2)
            self.wrong(1, 3, value, 3, 2)
            self.wrong(2, 3, 2, value, 2)
            self.wrong(3, 3, 2, 3, value)

    def test_the_first_wrong_one_is_told(self):
        self.wrong(0, None, None, None, None)
        self.wrong(1, 3, None, None, None)
        self.wrong(2, 3, 2, None, None)
        self.wrong(1, 3, 3, 3, 3)
        self.wrong(0, 2, 2, 3, 3)
        self.wrong(1, 3, 1, 2, 2)

    def test_equal(self):
        rule = Rule(9, 3, 12, 8)
        self.assertTrue(rule == Rule(9, 3, 12, 8))
        self.assertFalse(rule != Rule(9, 3, 12, 8))
        for other in (Rule(8, 3, 12, 8), Rule(9, 4, 12, 8), Rule(9, 3, 11, 8), Rule(9, 3, 12, 7)):
            self.assertFalse(rule == other)
            self.assertFalse(other == rule)
            self.assertTrue(rule != other)

    def test_equal_to_any_value(self):
        rule = Rule(3, 2, 3, 2)
        for value in (*NO_INTEGERS, 3, (3, 2, 3, 2), [3, 2, 3, 2], "3 2 3 2", Rule):
            self.assertIs(rule == value, False)
            self.assertIs(rule != value, True)
            if not isinstance(value, Same):
                self.assertIs(value == rule, False)
                self.assertIs(value != rule, True)

    def test_the_numbers_cannot_be_assigned(self):
        rule = Rule(3, 2, 3, 2)
        for name in ("leaf", "leaf_stays", "leaf_goes", "inner", "inner_stays", "inner_goes"):
            with self.assertRaises(AttributeError):
                setattr(rule, name, 5)
            self.assertIsInstance(vars(Rule)[name], property)
        self.assertEqual(numbers(rule), [3, 2, 2, 3, 2, 2])

    def test_where_it_is_defined(self):
        self.assertEqual(rules.Rule.__module__, "leafsplits.rules")


if __name__ == "__main__":
    unittest.main()
