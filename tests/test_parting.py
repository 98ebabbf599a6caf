import unittest

from checked import Checked, no_index
from counting import Counted
from leafsplits.errors import InvalidIndex, UnlikeRules
from leafsplits.indexes import PageIndex, new_index
from leafsplits.parting import parting_run, unlike_page
from leafsplits.rules import Rule
from leafsplits.runs import dropped, played, run
from picking import Picks, all_rules, full_path_levels, great_levels, great_rule, some_levels
from putting import Put

RULE = Rule(3, 2, 3, 2)
SOME = PageIndex(RULE, [[(3, 2)], [(2, 1)]])
MANY = 10 ** 30


def apart(levels):
    """The sizes of all pages of small levels."""
    return [[size for size, times in level for _ in range(times)] for level in levels]


def first_unlike(sizes, others):
    """The first page that is not the same, if the pages are looked at one by one."""
    for level in range(max(len(sizes), len(others))):
        one = sizes[level] if level < len(sizes) else []
        other = others[level] if level < len(others) else []
        for page in range(max(len(one), len(other))):
            if one[page:page + 1] != other[page:page + 1]:
                return (level, page)
    return None


def parting_number(numbers, levels, others, gap):
    """How many entries of a run up make some number of pages unlike, if they are put in one by one."""
    one, other = Put(numbers, levels), Put(numbers, others)
    places = [one.place(gap), other.place(gap)]
    number = 0
    while one.counts() == other.counts():
        number += 1
        places = [model.insert(place)[0] for model, place in zip((one, other), places)]
    return number


def changed(picks, numbers, levels):
    """Levels with other sizes of the pages of one level, and so the same numbers of pages."""
    sizes = apart(levels)
    level = picks.among(0, len(sizes) - 1)
    most = numbers[2] if level else numbers[0]
    chosen = list(sizes[level])
    for _ in range(picks.among(1, 3)):
        if level == 0:
            chosen[picks.among(0, len(chosen) - 1)] = picks.among(1, most)
        else:
            one, other = picks.among(0, len(chosen) - 1), picks.among(0, len(chosen) - 1)
            if one != other and chosen[one] > 1 and chosen[other] < most:
                chosen[one] -= 1
                chosen[other] += 1
    sizes[level] = chosen
    return Counted(sizes).together()


class ExampleTest(unittest.TestCase):
    def test_parting(self):
        one, two = run(SOME, "up", 2, 5), run(SOME, "down", 2, 5)
        self.assertEqual([unlike_page(one, two), parting_run(one, two), parting_run(one, SOME), parting_run(one, one)],
                         [(1, 0), (1, 2), (), None])


class SmallTest(Checked):
    def compare(self, numbers, levels, others):
        """Compares both answers with those of the model; which kind of answer it was."""
        rule = Rule(*numbers)
        index, second = PageIndex(rule, levels), PageIndex(rule, others)
        sizes, other_sizes = apart(levels), apart(others)
        page = first_unlike(sizes, other_sizes)
        what = (numbers, levels, others)
        for one, other in ((index, second), (second, index)):
            self.assertEqual(unlike_page(one, other), page, what)
        found = parting_run(index, second)
        self.assertEqual(parting_run(second, index), found, what)
        if page is None:
            self.assertIsNone(found, what)
            return "same"
        if [len(one) for one in sizes] != [len(one) for one in other_sizes]:
            self.assertEqual(found, (), what)
            return "apart"
        gap = index.span(*page)[0] if index.entries and second.entries else 0
        self.assertEqual(found, (gap, parting_number(numbers, index.levels, second.levels, gap)), what)
        self.assertIs(type(found), tuple)
        return "run"

    def test_indexes_that_differ_in_one_level(self):
        picks = Picks(31)
        answers = []
        for numbers in all_rules(3, 7):
            for leaves in (1, picks.among(2, 10), picks.among(11, 12)):
                levels = some_levels(picks, numbers, leaves)
                for _ in range(3):
                    answers.append(self.compare(numbers, levels, changed(picks, numbers, levels)))
        self.assertGreater(answers.count("run"), 900)
        self.assertGreater(answers.count("same"), 100)

    def test_any_indexes(self):
        picks = Picks(32)
        answers = []
        for numbers in all_rules(3, 7):
            leaves = picks.among(0, 6)
            levels, others = some_levels(picks, numbers, leaves), some_levels(picks, numbers, picks.one((leaves, 3)))
            answers.append(self.compare(numbers, levels, others))
        self.assertGreater(answers.count("apart"), 40)

    def test_all_pairs_of_few_leaves(self):
        leaves = [[one] for one in range(4)]
        leaves += [[one, other] for one in range(1, 4) for other in range(1, 4)]
        indexes = [Counted([sizes, [2]] if len(sizes) > 1 else [sizes]).together() for sizes in leaves]
        for levels in indexes:
            for others in indexes:
                self.compare((3, 2, 3, 2), levels, others)

    def test_index_without_entries(self):
        for numbers in all_rules(3, 7):
            rule = Rule(*numbers)
            for size in range(1, numbers[0] + 1):
                self.assertEqual(self.compare(numbers, [[(0, 1)]], [[(size, 1)]]), "run")
                expected = (0, numbers[0] + 1 - size)
                self.assertEqual(parting_run(new_index(rule), PageIndex(rule, [[(size, 1)]])), expected)
            self.assertEqual(self.compare(numbers, [[(0, 1)]], [[(0, 1)]]), "same")
            self.assertEqual(self.compare(numbers, [[(0, 1)]], [[(3, 2)], [(2, 1)]]), "apart")

    def test_high_levels(self):
        # The indexes are unlike on their third, and on their fourth level alone.
        levels = [[(2, 12)], [(2, 6)], [(2, 3)], [(3, 1)]]
        self.assertEqual(self.compare((3, 2, 3, 2), levels, [[(2, 12)], [(2, 6)], [(1, 1), (2, 1), (3, 1)], [(3, 1)]]),
                         "run")
        levels = [[(3, 8)], [(1, 8)], [(2, 4)], [(1, 2), (2, 1)], [(1, 1), (2, 1)], [(2, 1)]]
        others = [[(3, 8)], [(1, 8)], [(2, 4)], [(1, 2), (2, 1)], [(2, 1), (1, 1)], [(2, 1)]]
        self.assertEqual(self.compare((3, 2, 3, 2), levels, others), "run")
        one, other = PageIndex(RULE, levels), PageIndex(RULE, others)
        self.assertEqual([unlike_page(one, other), parting_run(one, other)[0]], [(4, 0), 1])

    def test_behind_runs_and_drops(self):
        picks = Picks(33)
        answers = []
        for _ in range(200):
            numbers = picks.one(all_rules(3, 5))
            levels = some_levels(picks, numbers, picks.among(3, 8))
            index = PageIndex(Rule(*numbers), levels)
            gap, number = picks.among(0, index.entries), picks.among(1, 12)
            one, other = run(index, "up", gap, number), run(index, "down", gap, number)
            answers.append(self.compare_many(numbers, one, other))
            first = picks.among(1, index.entries)
            answers.append(self.compare_many(numbers, dropped(one, first, first), dropped(other, first, first)))
        self.assertGreater(answers.count("run"), 60)

    def compare_many(self, numbers, one, other):
        found = parting_run(one, other)
        self.assertEqual(unlike_page(one, other), first_unlike(apart(one.levels), apart(other.levels)))
        if not found:
            self.assertEqual(found is None, one.levels == other.levels)
            return "same" if found is None else "apart"
        self.assertEqual(found[0], one.span(*unlike_page(one, other))[0])
        self.assertEqual(found[1], parting_number(numbers, one.levels, other.levels, found[0]))
        return "run"


class FactTest(Checked):
    def test_same_levels_stay_the_same(self):
        picks = Picks(34)
        for _ in range(60):
            numbers = picks.one(all_rules(3, 7))
            levels = some_levels(picks, numbers, picks.among(0, 8))
            one, other = PageIndex(Rule(*numbers), levels), PageIndex(Rule(*numbers), levels)
            script = [(picks.one(("up", "down")), picks.among(0, one.entries), picks.great(1, MANY)) for _ in range(5)]
            self.assertIsNone(parting_run(played(one, script), played(other, script)))
            self.assertIsNone(unlike_page(played(one, script), played(other, script)))


class GreatTest(Checked):
    def assert_parts(self, index, second):
        """Whether the run of parting_run parts the indexes, and no shorter one does."""
        gap, number = self.at_once(parting_run, index, second)
        if number > MANY:
            return number
        self.assertNotEqual(counts(run(index, "up", gap, number)), counts(run(second, "up", gap, number)))
        if number > 1:
            before = [counts(run(one, "up", gap, number - 1)) for one in (index, second)]
            self.assertEqual(before[0], before[1])
        else:
            self.assertEqual(counts(index), counts(second))
        return number

    def test_great_indexes(self):
        picks = Picks(35)
        found = []
        for _ in range(400):
            numbers = great_rule(picks)
            levels = great_levels(picks, numbers)
            level = picks.among(0, len(levels) - 1)
            most = numbers[2] if level else numbers[0]
            size, times = levels[level][0]
            if level == 0:
                other = (picks.great(1, most), 1)
                others = [[other, (size, times - 1)][:1 + (times > 1)] + levels[0][1:], *levels[1:]]
            elif times > 2 and 1 < size < most:
                others = list(levels)
                others[level] = [(size - 1, 1), (size + 1, 1), (size, times - 2), *levels[level][1:]]
            else:
                continue
            index, second = PageIndex(Rule(*numbers), levels), PageIndex(Rule(*numbers), others)
            if index == second:
                self.assertIsNone(self.at_once(parting_run, index, second))
                continue
            self.assertEqual(self.at_once(unlike_page, index, second), (level, 0))
            self.assertEqual(parting_run(index, second)[0], 1)
            found.append(self.assert_parts(index, second))
        self.assertTrue(any(number > MANY for number in found))
        self.assertTrue(any(10 ** 6 < number <= MANY for number in found))

    def test_far_pages(self):
        rule = Rule(MANY, MANY // 2, MANY, MANY // 2)
        index = PageIndex(rule, [[(7, MANY), (9, MANY)], [(MANY, 2)], [(2, 1)]])
        second = PageIndex(rule, [[(7, MANY), (9, MANY - 1), (8, 1)], [(MANY, 2)], [(2, 1)]])
        self.assertEqual(self.at_once(unlike_page, index, second), (0, 2 * MANY - 1))
        self.assertEqual(self.at_once(parting_run, index, second), (16 * MANY - 8, MANY + 1 - 9))
        third = PageIndex(rule, [[(7, MANY), (9, MANY)], [(MANY - 1, 1), (MANY, 1), (1, 1)], [(3, 1)]])
        self.assertEqual(self.at_once(unlike_page, index, third), (1, 0))
        self.assertEqual(self.at_once(parting_run, index, third), ())
        fourth = PageIndex(rule, [[(7, MANY), (9, MANY)], [(MANY - 1, 1), (MANY - 2, 1), (3, 1)], [(3, 1)]])
        self.assertEqual(self.at_once(unlike_page, fourth, third), (1, 1))
        # The leaf of 7 is split MANY - 6 entries later, and at once the full page.
        self.assertEqual(self.at_once(parting_run, fourth, third), (7 * MANY - 6, MANY + 1 - 7))

    def test_numbers_far_above(self):
        # Only the root is unlike, and its children are split at very few inserts.
        rule = Rule(MANY, MANY // 2, MANY, MANY // 2)
        levels = [[(1, 6)], [(1, 6)], [(1, 6)], [(3, 1), (2, 1), (1, 1)], [(3, 1)]]
        others = [[(1, 6)], [(1, 6)], [(1, 6)], [(3, 1), (1, 1), (2, 1)], [(3, 1)]]
        index, second = PageIndex(rule, levels), PageIndex(rule, others)
        self.assertEqual(self.at_once(unlike_page, index, second), (3, 1))
        gap, number = self.at_once(parting_run, index, second)
        self.assertEqual(gap, 4)
        # The leaf is split at the insert m for the first time, then half of
        # that apart; its page and the one above hold one child, too.
        half = MANY // 2
        first = MANY + (MANY - 1) * half + (MANY - 1) * half ** 2 + (MANY - 2) * half ** 3
        self.assertEqual(number, first)

    def test_tall_indexes(self):
        levels = full_path_levels(100)
        others = [*levels[:98], [(2, 1), (1, 1), (2, 1)], [(3, 1)]]
        index, second = PageIndex(RULE, levels), PageIndex(RULE, others)
        self.assertEqual(self.at_once(unlike_page, index, second), (98, 0))
        self.assertEqual(self.at_once(parting_run, index, second), (1, 1))
        behind, other = run(index, "up", 1, 1), run(second, "up", 1, 1)
        self.assertEqual([behind.height, other.height], [101, 100])
        self.assertEqual(parting_run(behind, other), ())
        self.assertEqual(unlike_page(behind, run(index, "down", 6, 1)), (0, 0))


def counts(index):
    """The number of pages of each level."""
    return [index.pages(level) for level in range(index.height)]


class WrongTest(Checked):
    def test_values(self):
        for function in (unlike_page, parting_run):
            self.assert_wrong(function, (SOME, no_index()), (new_index(RULE), no_index()))

    def test_unlike_rules(self):
        for function in (unlike_page, parting_run):
            for numbers in ((4, 2, 3, 2), (5, 3, 3, 2), (3, 2, 4, 2), (3, 2, 5, 2)):
                other = PageIndex(Rule(*numbers), SOME.levels)
                self.assert_raises(UnlikeRules, None, function, (SOME, other))
                self.assert_raises(UnlikeRules, None, function, (other, new_index(RULE)))
                self.assert_raises(InvalidIndex, None, function, (other, RULE))
            for numbers in ((5, 2, 3, 2), (5, 3, 3, 2)):
                other = PageIndex(Rule(*numbers), SOME.levels)
                self.assert_raises(UnlikeRules, None, function, (PageIndex(Rule(5, 4, 3, 2), SOME.levels), other))
            self.assertIsNone(function(SOME, PageIndex(Rule(3, 2, 3, 2), [[(3, 1), (3, 1)], [(2, 1)]])))


if __name__ == "__main__":
    unittest.main()
