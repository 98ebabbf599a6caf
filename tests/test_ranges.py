import unittest
from fractions import Fraction

from checked import Checked, no_entry, no_index, no_level, numbers_beyond
from counting import SOME_RULES, small_indexes
from leafsplits.errors import InvalidEntry, InvalidLength, InvalidLevel
from leafsplits.indexes import PageIndex, new_index
from leafsplits.loads import loaded
from leafsplits.ranges import mean_touched, touched, touched_in_all
from leafsplits.rules import Rule
from leafsplits.runs import dropped, run
from picking import EvenPicks, full_path_levels, great_levels, great_rule

RULE = Rule(3, 2, 3, 2)
THREE = PageIndex(RULE, [[(2, 2), (3, 1)], [(3, 1)]])
MANY = 10 ** 30


def homes(counted, level):
    """For each entry, the page of a level that it is below, if the pages are listed."""
    found = list(range(counted.entries()))
    for below in range(level + 1):
        holders = counted.holders(below)
        found = [holders[item] for item in found]
    return found


def sum_by_pages(index, level, length):
    """The sum over all pages of how many ranges touch the page."""
    ranges = index.entries + 1 - length
    total = 0
    for page in range(index.pages(level)):
        first, last = index.span(level, page)
        total += min(last, ranges) - max(first + 1 - length, 1) + 1
    return total


class ExampleTest(unittest.TestCase):
    def test_example(self):
        self.assertEqual([touched(THREE, 0, 2, 5), touched_in_all(THREE, 0, 2), mean_touched(THREE, 0, 2),
                          touched_in_all(THREE, 1, 2)], [3, 8, (4, 3), 6])


class SmallTest(Checked):
    def compare(self, index, counted):
        """Compares all ranges with what the entries of each page tell."""
        many = index.entries
        for level in range(index.height):
            places = homes(counted, level)
            for length in range(1, many + 1):
                counts = [len(set(places[first:first + length])) for first in range(many + 1 - length)]
                found = [touched(index, level, first + 1, first + length) for first in range(many + 1 - length)]
                what = (counted.sizes, level, length)
                self.assertEqual(found, counts, what)
                self.assertEqual(touched_in_all(index, level, length), sum(counts), what)
                mean = Fraction(sum(counts), len(counts))
                self.assertEqual(mean_touched(index, level, length), (mean.numerator, mean.denominator), what)

    def test_small_indexes(self):
        for numbers in SOME_RULES:
            for counted in small_indexes(numbers[0], numbers[2])[::2]:
                self.compare(PageIndex(Rule(*numbers), counted.together()), counted)

    def test_told_apart(self):
        for counted in small_indexes(3, 3)[::29]:
            if max(len(sizes) for sizes in counted.sizes) <= 12:
                self.compare(PageIndex(RULE, counted.apart()), counted)

    def test_one_leaf(self):
        for size in range(1, 4):
            index = PageIndex(RULE, [[(size, 1)]])
            for length in range(1, size + 1):
                self.assertEqual(touched(index, 0, 1, length), 1)
                self.assertEqual(touched_in_all(index, 0, length), size + 1 - length)
                self.assertEqual(mean_touched(index, 0, length), (1, 1))

    def test_beside_borders(self):
        # The leaves end behind the entries 2, 4 and 7.
        spans = [(1, 2), (2, 2), (2, 3), (3, 4), (1, 3), (2, 5), (4, 5), (5, 7), (1, 7), (7, 7)]
        self.assertEqual([touched(THREE, 0, *span) for span in spans], [1, 1, 2, 1, 2, 3, 2, 1, 3, 1])
        self.assertEqual([touched(THREE, 1, *span) for span in spans], [1] * 10)

    def test_means(self):
        # A mean that is a whole number, and two that are not.
        self.assertEqual([mean_touched(THREE, 0, length) for length in range(1, 8)],
                         [(1, 1), (4, 3), (9, 5), (9, 4), (8, 3), (3, 1), (3, 1)])


class GreatTest(Checked):
    def test_few_great_leaves(self):
        picks = EvenPicks(61)
        for _ in range(120):
            numbers = great_rule(picks)
            sizes = [(picks.one((numbers[0], picks.great(1, numbers[0]))), picks.among(1, 4)) for _ in range(4)]
            levels = [sizes]
            while (left := sum(times for _, times in levels[-1])) > 1:
                level = []
                while left > 0:
                    size = min(left, numbers[2], picks.among(1 if len(levels) < 3 else 2, 4))
                    level.append((size, 1))
                    left -= size
                if len(level) > 12:
                    level = [(1, left) for left in [sum(times for _, times in levels[-1])]]
                levels.append(level)
            index = PageIndex(Rule(*numbers), levels)
            for level in range(index.height):
                for length in (1, 2, index.entries, picks.great(1, index.entries), picks.among(1, index.entries)):
                    expected = sum_by_pages(index, level, length)
                    self.assertTrue(self.at_once(touched_in_all, index, level, length) == expected, (levels, length))
                    mean = Fraction(expected, index.entries + 1 - length)
                    found = self.at_once(mean_touched, index, level, length)
                    self.assertTrue(found == (mean.numerator, mean.denominator))

    def grown(self, times):
        """An index of pages that hold leaves of unlike sizes, three parts of which have so many pages."""
        leaves = [(3, 2 * times), (2, times), (1, 1), (3, times)]
        pages = 4 * times + 1
        return PageIndex(Rule(3, 2, MANY, MANY // 2), [leaves, [(3, pages // 3), (pages - pages // 3 * 3, 1)],
                                                       [(5, pages // 15), (pages // 3 + 1 - pages // 15 * 5, 1)],
                                                       [(pages // 15 + 1, 1)]])

    def test_very_many_pages(self):
        # With each 15 further pages of a part the sums grow as much as before.
        for level in range(4):
            for length in (1, 2, 3, 4, 7, 16, 45, 90):
                first, second, third = [sum_by_pages(self.grown(times), level, length) for times in (40, 55, 70)]
                self.assertEqual(second - first, third - second)
                times = 40 + 15 * 10 ** 28
                found = self.at_once(touched_in_all, self.grown(times), level, length)
                self.assertEqual(found, first + 10 ** 28 * (second - first), (level, length))

    def test_two_halves(self):
        picks = EvenPicks(62)
        for _ in range(200):
            numbers = great_rule(picks)
            index = PageIndex(Rule(*numbers), great_levels(picks, numbers))
            level = picks.among(0, index.height - 1)
            length = picks.great(1, index.entries)
            ranges = index.entries + 1 - length
            total = self.at_once(touched_in_all, index, level, length)
            self.assertTrue(ranges <= total <= ranges * index.pages(level))
            # One more entry in each range: as many more pages as ranges end ahead of a page.
            if length < index.entries:
                more = touched_in_all(index, level, length + 1) - (total - touched(index, level, ranges, index.entries))
                ends = touched(index, level, length, index.entries) - 1
                self.assertTrue(more == ends, (numbers, index.levels, level, length))
            first = picks.great(1, index.entries)
            last = picks.great(first, index.entries)
            middle = picks.great(first, last)
            whole = self.at_once(touched, index, level, first, last)
            parts = touched(index, level, first, middle) + touched(index, level, middle, last)
            self.assertTrue(whole == parts - 1)
            self.assertTrue(touched(index, level, 1, index.entries) == index.pages(level))

    def test_loads(self):
        index = self.at_once(loaded, RULE, "up", MANY)
        for level in (0, 1, 2, 29):
            held = 2 ** (level + 1)
            self.assertEqual(self.at_once(touched_in_all, index, level, MANY), MANY // held)
            self.assertEqual(self.at_once(touched_in_all, index, level, 1), MANY)
            # A range of two entries touches one page more where a page ends between them.
            self.assertEqual(self.at_once(touched_in_all, index, level, 2), MANY - 1 + MANY // held - 1)
            self.assertEqual(self.at_once(touched, index, level, held, MANY - held + 1), MANY // held)
            self.assertEqual(touched(index, level, held + 1, MANY - held), MANY // held - 2)
        self.assertEqual(touched(index, index.height - 1, 1, MANY), 1)
        self.assertEqual(mean_touched(index, index.height - 1, MANY // 3), (1, 1))
        self.assertEqual(mean_touched(index, 0, 3), (2, 1))

    def test_tall_indexes(self):
        tall = PageIndex(RULE, full_path_levels(100))
        for level in (0, 1, 50, 98, 99):
            for length in (1, 2, 50, tall.entries):
                expected = sum_by_pages(tall, level, length)
                self.assertEqual(self.at_once(touched_in_all, tall, level, length), expected)

    def test_behind_runs_and_drops(self):
        picks = EvenPicks(63)
        index = loaded(RULE, "down", 500)
        for _ in range(12):
            index = run(index, picks.one(("up", "down")), picks.among(0, index.entries), picks.among(1, 40))
            first = picks.among(1, index.entries)
            index = dropped(index, first, min(first + 25, index.entries))
            for level in range(index.height):
                for length in (1, 2, 5, 60, index.entries):
                    self.assertEqual(touched_in_all(index, level, length), sum_by_pages(index, level, length))


class WrongTest(Checked):
    def test_touched(self):
        self.assert_wrong(touched, (THREE, no_index()), (1, no_level(1)), (1, no_entry(1, 7)), (7, no_entry(1, 7)))
        self.assert_wrong(touched, (THREE, no_index()), (0, no_level(1)), (7, no_entry(1, 7)), (7, no_entry(7, 7)))
        for last in range(-1, 4):
            self.assert_raises(InvalidEntry, None, touched, (THREE, 0, 4, last))

    def test_lengths(self):
        wrong = [(value, InvalidLength) for value in numbers_beyond(1, 7)]
        for function in (touched_in_all, mean_touched):
            for level, length in ((0, 1), (1, 7)):
                self.assert_wrong(function, (THREE, no_index()), (level, no_level(1)), (length, wrong))

    def test_index_without_entries(self):
        empty = new_index(RULE)
        for value in (0, 1, -1, None):
            self.assert_raises(InvalidEntry, None, touched, (empty, 0, value, 1))
            for function in (touched_in_all, mean_touched):
                self.assert_raises(InvalidLength, None, function, (empty, 0, value))
                self.assert_raises(InvalidLevel, None, function, (empty, 1, value))


if __name__ == "__main__":
    unittest.main()
