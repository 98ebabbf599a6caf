import unittest

from counting import NO_INTEGERS, SOME_RULES, Same, small_indexes
from leafsplits.errors import InvalidEntry, InvalidLevel, InvalidLevels, InvalidPage, InvalidRule
from leafsplits.indexes import PageIndex, new_index
from leafsplits.rules import Rule

MOST = 10 ** 30
RULE = Rule(3, 2, 3, 2)
GREAT = Rule(MOST, MOST // 2, MOST, MOST // 2)


def some():
    return PageIndex(RULE, [[(3, 2)], [(2, 1)]])


def powers(height):
    """The index of full pages: 3 ** (height - 1) leaves, and above them."""
    return PageIndex(RULE, [[(3, 3 ** (height - 1 - level))] for level in range(height)])


class Checked(unittest.TestCase):
    def raises(self, error, call, *arguments):
        with self.assertRaises(error) as caught:
            call(*arguments)
        self.assertIs(type(caught.exception), error)
        return caught.exception

    def wrong(self, level, levels, rule=RULE):
        told = repr(levels)
        error = self.raises(InvalidLevels, PageIndex, rule, levels)
        self.assertEqual(error.level, level)
        self.assertIs(type(error.level), type(level))
        self.assertEqual(repr(levels), told)


class ExampleTest(Checked):
    def test_example(self):
        index = some()
        self.assertEqual([index.entries, index.height, index.pages(0), index.size(1, 0),
                          index.span(0, 1), index.path(4), index.above(0, 1)],
                         [6, 2, 2, 2, (4, 6), [1, 0], 0])
        self.assertEqual(index.levels, [[(3, 2)], [(2, 1)]])
        self.assertEqual(index.rule, RULE)

    def test_where_it_is_defined(self):
        self.assertEqual(PageIndex.__module__, "leafsplits.indexes")
        self.assertEqual(new_index.__module__, "leafsplits.indexes")
        for name in ("rule", "levels", "entries", "height"):
            self.assertIsInstance(vars(PageIndex)[name], property)
        for name in ("pages", "size", "above", "child", "span", "path", "__eq__", "__init__"):
            self.assertIn(name, vars(PageIndex))


class CountingTest(Checked):
    def test_small_indexes(self):
        for numbers in SOME_RULES:
            for counted in small_indexes(numbers[0], numbers[2]):
                index = PageIndex(Rule(*numbers), counted.together())
                self.compare_index(index, counted)
                self.compare_pages(index, counted)

    def test_told_apart(self):
        for counted in small_indexes(3, 3):
            index = PageIndex(RULE, counted.apart())
            self.compare_index(index, counted)
            self.compare_pages(index, counted)
            self.assertTrue(index == PageIndex(RULE, counted.together()))

    def compare_index(self, index, counted):
        self.assertEqual(index.levels, counted.together())
        self.assertEqual(index.height, counted.height())
        self.assertEqual(index.entries, counted.entries())
        for level in range(counted.height()):
            self.assertEqual(index.pages(level), len(counted.sizes[level]))
        paths = [counted.path(entry) for entry in range(1, counted.entries() + 1)]
        for entry, path in enumerate(paths, 1):
            self.assertEqual(index.path(entry), path)
        for level in range(counted.height()):
            for page in range(len(counted.sizes[level])):
                below = [entry for entry, path in enumerate(paths, 1) if path[level] == page]
                self.assertEqual(index.span(level, page), (below[0], below[-1]))

    def compare_pages(self, index, counted):
        for level, sizes in enumerate(counted.sizes):
            for page, size in enumerate(sizes):
                self.assertEqual(index.size(level, page), size)
                if level + 1 < counted.height():
                    self.assertEqual(index.above(level, page), counted.holders(level + 1)[page])
                if level > 0:
                    self.assertEqual(index.child(level, page), counted.holders(level).index(page))


class EdgeTest(Checked):
    def test_no_entries(self):
        for index in (new_index(RULE), PageIndex(RULE, [[(0, 1)]])):
            self.assertEqual([index.rule, index.levels, index.entries, index.height],
                             [RULE, [[(0, 1)]], 0, 1])
            self.assertEqual([index.pages(0), index.size(0, 0)], [1, 0])
            self.raises(InvalidPage, index.span, 0, 0)
            self.raises(InvalidPage, index.span, 0, 1)
            self.raises(InvalidLevel, index.span, 1, 0)
            self.raises(InvalidLevel, index.above, 0, 0)
            self.raises(InvalidLevel, index.child, 0, 0)
            self.raises(InvalidPage, index.size, 0, 1)
            for entry in (-1, 0, 1):
                self.raises(InvalidEntry, index.path, entry)
        self.assertTrue(new_index(RULE) == new_index(Rule(3, 2, 3, 2)))
        self.assertFalse(new_index(RULE) == new_index(Rule(4, 2, 3, 2)))

    def test_empty_leaf_stands_alone(self):
        for levels in ([[(0, 2)]], [[(0, 1), (0, 1)]], [[(0, 1), (3, 1)], [(2, 1)]], [[[0, 1]]],
                       [[(0, 1)], [(1, 1)]], [[(3, 1), (0, 1)], [(2, 1)]], [((0, 1),)], [(0, 1)],
                       [[(0, 1, 1)]], [[(0,)]], [[(0, 0)]], [[(False, 1)]], [[(0, True)]],
                       [[(False, True)]], [[(Same(), 1)]], [[(0, Same())]], [Same()], [[Same()]]):
            self.wrong(0, levels)

    def test_one_leaf(self):
        for size in (1, 2, 3):
            index = PageIndex(RULE, [[(size, 1)]])
            self.assertEqual([index.levels, index.entries, index.height, index.pages(0)],
                             [[[(size, 1)]], size, 1, 1])
            self.assertEqual([index.span(0, 0), index.path(size)], [(1, size), [0]])
            self.raises(InvalidEntry, index.path, size + 1)

    def test_sizes(self):
        rule = Rule(5, 2, 4, 2)
        PageIndex(rule, [[(5, 1)]])
        PageIndex(rule, [[(1, 4)], [(4, 1)]])
        self.wrong(0, [[(6, 1)]], rule)
        self.wrong(0, [[(-1, 1)]], rule)
        self.wrong(1, [[(1, 5)], [(5, 1)]], rule)
        self.wrong(1, [[(1, 4)], [(4, 1), (0, 1)], [(2, 1)]], rule)
        self.wrong(1, [[(1, 4)], [(5, 1), (-1, 1)], [(2, 1)]], rule)

    def test_greatest_sizes(self):
        index = PageIndex(GREAT, [[(MOST, MOST)], [(MOST, 1)]])
        self.assertEqual([index.entries, index.pages(0)], [MOST * MOST, MOST])
        self.assertEqual(index.path(MOST * MOST), [MOST - 1, 0])
        self.assertEqual(index.span(0, MOST - 1), (MOST * MOST - MOST + 1, MOST * MOST))
        self.wrong(0, [[(MOST + 1, MOST)], [(MOST, 1)]], GREAT)
        self.wrong(1, [[(MOST, MOST), (1, 1)], [(MOST + 1, 1)]], GREAT)

    def test_times(self):
        PageIndex(GREAT, [[(1, MOST)], [(MOST, 1)]])
        self.wrong(0, [[(1, MOST + 1)], [(MOST, 1), (1, 1)], [(2, 1)]], GREAT)
        self.wrong(0, [[(1, 0)]])
        self.wrong(0, [[(1, -1), (1, 2)]])
        self.wrong(0, [[(1, 3), (1, 0)], [(3, 1)]])

    def test_twelve_tuples_of_the_greatest_times(self):
        level = [(size, MOST) for size in range(1, 13)]
        index = PageIndex(GREAT, [level, [(MOST, 12)], [(12, 1)]])
        self.assertEqual(index.levels, [level, [(MOST, 12)], [(12, 1)]])
        self.assertEqual([index.entries, index.pages(0)], [78 * MOST, 12 * MOST])
        self.assertEqual([index.size(0, 12 * MOST - 1), index.size(0, 11 * MOST - 1)], [12, 11])
        self.assertEqual(index.path(66 * MOST), [11 * MOST - 1, 10, 0])
        self.assertEqual(index.path(66 * MOST + 1), [11 * MOST, 11, 0])
        self.assertEqual(index.span(1, 11), (66 * MOST + 1, 78 * MOST))
        self.wrong(0, [level + [(1, 1)], [(MOST, 12), (1, 1)], [(13, 1)]], GREAT)
        self.wrong(1, [[(1, 13)], [(1, 1)] * 13, [(13, 1)]], GREAT)

    def test_hundred_levels(self):
        levels = [[(1, 2)] for _ in range(99)] + [[(2, 1)]]
        index = PageIndex(RULE, levels)
        self.assertEqual([index.height, index.entries, index.levels], [100, 2, levels])
        self.assertEqual(index.path(2), [1] * 99 + [0])
        self.assertEqual([index.span(98, 1), index.span(99, 0)], [(2, 2), (1, 2)])
        self.assertEqual([index.above(98, 1), index.child(98, 1)], [0, 1])
        self.raises(InvalidLevel, index.above, 99, 0)
        self.raises(InvalidLevel, index.pages, 100)
        self.wrong(None, [[(1, 2)]] + levels)
        self.wrong(98, levels[:98] + [[(1, 1)], [(1, 1)]])

    def test_first_and_last(self):
        index = PageIndex(RULE, [[(2, 2), (3, 1), (1, 2)], [(1, 1), (3, 1), (1, 1)], [(3, 1)]])
        self.assertEqual([index.path(1), index.path(9)], [[0, 0, 0], [4, 2, 0]])
        self.raises(InvalidEntry, index.path, 0)
        self.raises(InvalidEntry, index.path, 10)
        self.assertEqual([index.span(0, 0), index.span(0, 4), index.span(2, 0)],
                         [(1, 2), (9, 9), (1, 9)])
        self.assertEqual([index.above(0, 4), index.above(1, 0), index.child(1, 2)], [2, 0, 4])
        for call in (index.pages, ):
            self.raises(InvalidLevel, call, -1)
            self.raises(InvalidLevel, call, 3)
        for call in (index.size, index.span):
            self.raises(InvalidLevel, call, -1, 0)
            self.raises(InvalidLevel, call, 3, 0)
            self.raises(InvalidPage, call, 0, 5)
            self.raises(InvalidPage, call, 2, 1)
            self.raises(InvalidPage, call, 0, -1)
        self.raises(InvalidLevel, index.above, 2, 0)
        self.raises(InvalidLevel, index.above, -1, 0)
        self.raises(InvalidPage, index.above, 1, 3)
        self.raises(InvalidPage, index.above, 1, -1)
        self.raises(InvalidLevel, index.child, 0, 0)
        self.raises(InvalidLevel, index.child, 3, 0)
        self.raises(InvalidPage, index.child, 1, 3)
        self.raises(InvalidPage, index.child, 2, -1)

    def test_neighbours_of_one_size(self):
        told = PageIndex(RULE, [[(2, 1), (2, 1), (3, 1), (3, 2)], [(3, 1), (2, 1)],
                                [(2, 1)]])
        plain = PageIndex(RULE, [[(2, 2), (3, 3)], [(3, 1), (2, 1)], [(2, 1)]])
        self.assertEqual(told.levels, [[(2, 2), (3, 3)], [(3, 1), (2, 1)], [(2, 1)]])
        self.assertTrue(told == plain)
        self.assertTrue(plain == told)
        great = PageIndex(GREAT, [[(2, MOST), (2, MOST)], [(MOST, 1), (MOST, 1)], [(2, 1)]])
        self.assertEqual(great.levels, [[(2, 2 * MOST)], [(MOST, 2)], [(2, 1)]])

    def test_very_many_leaves(self):
        index = powers(62)
        self.assertEqual([index.pages(0), index.entries, index.height], [3 ** 61, 3 ** 62, 62])
        self.assertEqual(index.path(3 ** 62), [3 ** (61 - level) - 1 for level in range(62)])
        self.assertEqual(index.path(1), [0] * 62)
        self.assertEqual(index.span(30, 7), (7 * 3 ** 31 + 1, 8 * 3 ** 31))
        self.assertEqual(index.above(0, 3 ** 61 - 1), 3 ** 60 - 1)
        self.assertEqual(index.child(1, 3 ** 60 - 1), 3 ** 61 - 3)
        self.assertEqual(index.size(0, 10 ** 29), 3)
        self.raises(InvalidPage, index.size, 0, 3 ** 61)
        self.raises(InvalidEntry, index.path, 3 ** 62 + 1)
        self.assertTrue(index == powers(62))
        self.assertFalse(index == powers(61))

    def test_very_many_leaves_of_some_sizes(self):
        third = 3 ** 60
        index = PageIndex(RULE, [[(2, third), (3, third), (1, third)]] + powers(62).levels[1:])
        self.assertEqual(index.entries, 6 * third)
        self.assertEqual([index.size(0, third - 1), index.size(0, third), index.size(0, 2 * third)],
                         [2, 3, 1])
        self.assertEqual(index.span(60, 1), (2 * third + 1, 5 * third))
        self.assertEqual(index.path(2 * third + 4)[:2], [third + 1, third // 3])
        self.assertEqual(index.path(5 * third)[60:], [1, 0])
        self.assertEqual(index.path(5 * third + 1)[60:], [2, 0])


class WrongTest(Checked):
    def test_rule(self):
        for value in (*NO_INTEGERS, 3, (3, 2, 3, 2), Rule, some()):
            for call in (new_index, lambda rule: PageIndex(rule, [[(3, 1)]]),
                         lambda rule: PageIndex(rule, None)):
                self.assertIs(self.raises(InvalidRule, call, value).item, None)

    def test_no_list_of_levels(self):
        for value in (True, None, 0, "", "abc", (), ([(3, 1)],), {}, {0: [(3, 1)]}, object(), [],
                      some(), RULE, Same()):
            self.wrong(None, value)
        self.wrong(None, [[(3, 1)]] * 101)
        self.wrong(None, [None] * 101)
        self.wrong(0, [None] * 100)

    def test_no_list_of_tuples(self):
        for value in (*NO_INTEGERS, 3, "abc", ((3, 1),), [[3, 1]], [(3,)], [(3, 1, 1)], [3, 1],
                      {(3, 1)}, {(3, 1): 1}, [((3, 1),)], [[(3, 1)]], [(3, 1), None], ["31"]):
            self.wrong(0, [value])
            self.wrong(0, [value, value])
            self.wrong(1, [[(3, 2)], value])
            self.wrong(2, [[(3, 2)], [(1, 2)], value, None])

    def test_no_integers(self):
        for value in NO_INTEGERS:
            self.wrong(0, [[(value, 1)]])
            self.wrong(0, [[(1, value)]])
            self.wrong(0, [[(3, 1), (value, 1)], [(2, 1)]])
            self.wrong(1, [[(3, 2)], [(value, 1)]])
            self.wrong(1, [[(3, 2)], [(2, value)]])

    def test_numbers_of_children(self):
        self.wrong(1, [[(3, 2)], [(1, 1)]])
        self.wrong(1, [[(3, 2)], [(3, 1)]])
        self.wrong(1, [[(3, 2), (1, 2)], [(2, 1), (1, 1)], [(2, 1)]])
        self.wrong(2, [[(3, 4)], [(2, 2)], [(3, 1)]])
        self.wrong(1, [[(1, 3 ** 61)], [(3, 3 ** 60 - 1)], [(2, 1)]])

    def test_numbers_of_pages(self):
        self.wrong(0, [[(3, 2)]])
        self.wrong(0, [[(3, 1), (2, 1)]])
        self.wrong(0, [[(3, 1)], [(1, 1)]])
        self.wrong(1, [[(3, 4)], [(2, 2)]])
        self.wrong(1, [[(3, 2)], [(2, 1)], [(1, 1)]])

    def test_the_first_wrong_level_is_told(self):
        self.wrong(0, [[(4, 2)], [(3, 1)], None])
        self.wrong(0, [[(3, 1)], None])
        self.wrong(1, [[(3, 2)], [(3, 1)], None])
        self.wrong(1, [[(3, 2)], [(2, 1)], None])
        self.wrong(2, [[(3, 3)], [(1, 3)], [(4, 1)], [(9, 9)]])

    def test_level_page_and_entry(self):
        index = some()
        for value in (*NO_INTEGERS, -1, 2, 10 ** 99, -10 ** 900, (0,), "0"):
            for call in (index.size, index.above, index.child, index.span):
                self.raises(InvalidLevel, call, value, 0)
                self.raises(InvalidLevel, call, value, value)
            self.raises(InvalidLevel, index.pages, value)
            self.raises(InvalidPage, index.size, 0, value)
            self.raises(InvalidPage, index.span, 0, value)
            self.raises(InvalidPage, index.above, 0, value)
            self.raises(InvalidPage, index.child, 1, value)
        for value in (*NO_INTEGERS, -1, 0, 7, 10 ** 99, -10 ** 900, (1,), "1"):
            self.raises(InvalidEntry, index.path, value)
        self.raises(InvalidLevel, index.above, 1, 9)
        self.raises(InvalidLevel, index.child, 0, 9)
        self.assertTrue(index == some())


class EqualTest(Checked):
    def test_equal(self):
        self.assertIs(some() == some(), True)
        self.assertIs(some() != some(), False)
        for other in (PageIndex(Rule(4, 2, 3, 2), some().levels),
                      PageIndex(Rule(3, 2, 4, 2), some().levels), PageIndex(RULE, [[(3, 1)]]),
                      PageIndex(RULE, [[(3, 1), (2, 1)], [(2, 1)]]), new_index(RULE), powers(3)):
            self.assertIs(some() == other, False)
            self.assertIs(other == some(), False)
            self.assertIs(some() != other, True)

    def test_pages_above_count(self):
        one = PageIndex(RULE, [[(3, 5)], [(2, 1), (3, 1)], [(2, 1)]])
        two = PageIndex(RULE, [[(3, 5)], [(3, 1), (2, 1)], [(2, 1)]])
        self.assertIs(one == two, False)

    def test_equal_to_any_value(self):
        index = some()
        for value in (*NO_INTEGERS, 6, RULE, PageIndex, index.levels, (RULE, index.levels)):
            self.assertIs(index == value, False)
            self.assertIs(index != value, True)
            if not isinstance(value, Same):
                self.assertIs(value == index, False)
                self.assertIs(value != index, True)


class KeptTest(Checked):
    def test_arguments_are_not_kept(self):
        levels = [[(3, 1), (3, 1)], [(2, 1)]]
        index = PageIndex(RULE, levels)
        self.assertEqual(levels, [[(3, 1), (3, 1)], [(2, 1)]])
        levels[0][0] = (1, 1)
        levels[1].append(None)
        levels.append(None)
        self.assertTrue(index == some())

    def test_returned_lists_are_new(self):
        index = some()
        index.levels[0].append((9, 9))
        index.levels.append([(9, 9)])
        index.path(1).append(9)
        self.assertEqual([index.levels, index.path(1)], [[[(3, 2)], [(2, 1)]], [0, 0]])
        self.assertTrue(index == some())

    def test_properties_cannot_be_assigned(self):
        index = some()
        for name in ("rule", "levels", "entries", "height"):
            with self.assertRaises(AttributeError):
                setattr(index, name, 1)
        self.assertTrue(index == some())

    def test_told_levels_may_be_passed_on(self):
        for counted in small_indexes(3, 3):
            index = PageIndex(RULE, counted.together())
            self.assertTrue(PageIndex(index.rule, index.levels) == index)

    def test_answers_are_plain_values(self):
        index = some()
        self.assertIs(type(index.levels), list)
        self.assertIs(type(index.levels[0]), list)
        self.assertIs(type(index.levels[0][0]), tuple)
        self.assertIs(type(index.span(0, 0)), tuple)
        self.assertIs(type(index.path(1)), list)


if __name__ == "__main__":
    unittest.main()
