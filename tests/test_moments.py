import unittest

from checked import Checked, no_gap, no_index, no_kind, no_level, no_number, told
from counting import Counted
from leafsplits.indexes import PageIndex, new_index
from leafsplits.moments import split_levels, split_moment, splits
from leafsplits.rules import Rule
from leafsplits.runs import dropped, run
from picking import Picks, all_rules, full_path_levels, great_levels, great_rule, some_levels
from putting import Put

RULE = Rule(3, 2, 3, 2)
SOME = PageIndex(RULE, [[(3, 2)], [(2, 1)]])


def leaf_splits(numbers, kind, ahead, behind, many):
    """The first splits of a leaf that a run meets, as the document tells them.

    Tuples of the insert and whether the run goes on in the right part.
    """
    leaf, stays = numbers[:2]
    goes = leaf + 1 - stays
    moment = leaf + 1 - ahead - behind
    found = []
    if kind == "up":
        for _ in range(behind // goes):
            found.append((moment, False))
            moment += goes
        return found + [(moment + at * stays, True) for at in range(many)]
    for _ in range(max((ahead + stays - 1) // stays - 1, 0)):
        found.append((moment, True))
        moment += stays
    return found + [(moment + at * goes, False) for at in range(many)]


def up_to_root(levels):
    """The levels up to the first one of one page."""
    for at, level in enumerate(levels):
        if sum(times for _, times in level) == 1:
            return levels[:at + 1]
    raise AssertionError(levels)


class ExampleTest(unittest.TestCase):
    def test_splits(self):
        self.assertEqual([splits(SOME, "up", 2, 5, 0), splits(SOME, "up", 2, 5, 1)], [3, 1])
        self.assertEqual([split_moment(SOME, "up", 2, 0, count) for count in (1, 2, 3)], [1, 3, 5])
        self.assertEqual([split_levels(SOME, "up", 2, insert) for insert in (1, 2, 3)], [1, 0, 2])


class SmallTest(Checked):
    def compare(self, numbers, levels, kind, gap, number):
        """Compares the splits of each part of a run with those of a model."""
        index = PageIndex(Rule(*numbers), levels)
        found = Put(numbers, levels).run(kind, gap, number)
        what = (numbers, levels, kind, gap)
        for insert in range(1, number + 1):
            self.assertEqual(split_levels(index, kind, gap, insert), found[insert - 1], (what, insert))
        for level in [*range(index.height + 2), 200]:
            moments = [insert + 1 for insert, many in enumerate(found) if many > level]
            for count, moment in enumerate(moments):
                self.assertEqual(split_moment(index, kind, gap, level, count + 1), moment, (what, level, count))
                self.assertEqual(splits(index, kind, gap, moment, level), count + 1, (what, level, moment))
                if moment > 1:
                    self.assertEqual(splits(index, kind, gap, moment - 1, level), count, (what, level, moment))
            self.assertEqual(splits(index, kind, gap, number, level), len(moments), (what, level))
            self.assertGreater(split_moment(index, kind, gap, level, len(moments) + 1), number, (what, level))

    def test_all_small_rules(self):
        picks = Picks(11)
        for numbers in all_rules(3, 7):
            for kind in ("up", "down"):
                levels = some_levels(picks, numbers, picks.among(0, 10))
                gap = picks.among(0, sum(size * times for size, times in levels[0]))
                self.compare(numbers, levels, kind, gap, 60)

    def test_every_gap(self):
        picks = Picks(12)
        for numbers in ((3, 2, 3, 2), (7, 2, 7, 2), (7, 6, 7, 6), (7, 2, 3, 2), (3, 2, 7, 6), (5, 4, 4, 3)):
            for leaves in (0, 1, 2, 5, 9):
                levels = some_levels(picks, numbers, leaves)
                for gap in range(sum(size * times for size, times in levels[0]) + 1):
                    for kind in ("up", "down"):
                        self.compare(numbers, levels, kind, gap, 25)

    def test_full_pages(self):
        for numbers in ((3, 2, 3, 2), (7, 2, 7, 2), (7, 6, 3, 2), (4, 3, 6, 5)):
            leaf, _, inner, _ = numbers
            levels = [[(leaf, inner * inner)], [(inner, inner)], [(inner, 1)]]
            for gap in range(0, leaf * inner * inner + 1, 4):
                for kind in ("up", "down"):
                    self.assertEqual(split_levels(PageIndex(Rule(*numbers), levels), kind, gap, 1), 3)
                    self.compare(numbers, levels, kind, gap, 20)

    def test_pages_with_one_child(self):
        thin = dropped(PageIndex(RULE, [[(3, 9)], [(3, 3)], [(3, 1)]]), 4, 18)
        for gap in range(thin.entries + 1):
            for kind in ("up", "down"):
                self.compare((3, 2, 3, 2), thin.levels, kind, gap, 40)

    def test_long_runs(self):
        picks = Picks(13)
        for numbers in ((3, 2, 3, 2), (6, 2, 7, 2), (5, 4, 3, 2)):
            for kind in ("up", "down"):
                levels = some_levels(picks, numbers, 7)
                self.compare(numbers, levels, kind, picks.among(0, 7), 400)


class FactTest(Checked):
    def test_one_page(self):
        # Every leaf that a run can meet, alone and among others.
        for leaf, stays in sorted({numbers[:2] for numbers in all_rules(3, 7)}):
            for ahead in range(leaf + 1):
                for behind in range(leaf + 1 - ahead):
                    self.compare_leaf((leaf, stays, 5, 3), ahead, behind)

    def compare_leaf(self, numbers, ahead, behind):
        size = ahead + behind
        alone = PageIndex(Rule(*numbers), [[(size, 1)]])
        for kind in ("up", "down"):
            expected = [moment for moment, _ in leaf_splits(numbers, kind, ahead, behind, 5)]
            found = [split_moment(alone, kind, ahead, 0, count + 1) for count in range(len(expected))]
            self.assertEqual(found, expected, (numbers, kind, ahead, behind))
            if ahead > 0:
                levels = [[(2, 1), (size, 1), (1, 1)], [(3, 1)]]
                among = PageIndex(Rule(*numbers), levels)
                found = [split_moment(among, kind, 2 + ahead, 0, count + 1) for count in range(len(expected))]
                self.assertEqual(found, expected, (numbers, kind, ahead, behind))

    def test_great_pages(self):
        picks = Picks(14)
        for _ in range(300):
            numbers = great_rule(picks)
            size = picks.great(1, numbers[0])
            ahead = picks.one((0, size, picks.among(0, size)))
            index = PageIndex(Rule(*numbers), [[(size, 1)]])
            for kind in ("up", "down"):
                expected = leaf_splits(numbers, kind, ahead, size - ahead, 4)
                for count, (moment, _) in enumerate(expected):
                    what = (numbers, size, kind, ahead, count)
                    self.assertEqual(split_moment(index, kind, ahead, 0, count + 1), moment, what)
                    self.assertGreater(split_levels(index, kind, ahead, moment), 0, what)

    def test_the_page_above(self):
        # Leaves of very many entries: the pages above get one child after
        # the other, as a run up or down does it.
        picks = Picks(15)
        for _ in range(250):
            inner = picks.one(all_rules(3, 7))[2:]
            leaf = picks.among(10 ** 28, 3 * 10 ** 28)
            least = (leaf + 4) // 4
            numbers = (leaf, picks.one((least, leaf + 1 - least, leaf // 2)), *inner)
            counted = some_levels(picks, inner + inner, picks.among(1, 9))
            leaves = sum(size for size, _ in counted[0])
            sizes = [picks.among(1, leaf) for _ in range(min(leaves, 12))]
            sizes += sizes[-1:] * (leaves - len(sizes))
            index = PageIndex(Rule(*numbers), up_to_root([*Counted([sizes]).together(), *counted]))
            at = picks.among(0, len(sizes) - 1)
            ahead = picks.among(1, sizes[at])
            gap = sum(sizes[:at]) + ahead
            for kind in ("up", "down"):
                self.compare_above(index, inner, at, kind, (gap, ahead, sizes[at] - ahead))

    def compare_above(self, index, inner, at, kind, place):
        gap, ahead, behind = place
        rule = index.rule
        numbers = (rule.leaf, rule.leaf_stays, *inner)
        expected = [(moment, is_right) for moment, is_right in leaf_splits(numbers, kind, ahead, behind, 500)
                    if moment <= 10 ** 30]
        above = Put(inner + inner, index.levels[1:] or [[(1, 1)]])
        leaf = above.place(at + 1)
        for count, (moment, is_right) in enumerate(expected):
            new, split = above.insert(leaf)
            leaf = new if is_right else leaf
            self.assertEqual(split_moment(index, kind, gap, 0, count + 1), moment)
            self.assertEqual(split_levels(index, kind, gap, moment), split + 1)
        levels = run(index, kind, gap, 10 ** 30).levels
        self.assertEqual(levels[1:], told(above), (index.levels, kind, gap))
        self.assertEqual(splits(index, kind, gap, 10 ** 30, 0), len(expected))


class GreatTest(Checked):
    def test_loads_by_twos(self):
        # The splits of level k are at 2 ** (k + 2) and then 2 ** (k + 1) apart.
        empty = new_index(RULE)
        for level in (0, 1, 2, 57, 199, 200):
            for count in (1, 2, 10 ** 15, 10 ** 30):
                moment = 2 ** (level + 2) + (count - 1) * 2 ** (level + 1)
                for kind in ("up", "down"):
                    self.assertEqual(self.at_once(split_moment, empty, kind, 0, level, count), moment)
        for kind in ("up", "down"):
            self.assertEqual(self.at_once(splits, empty, kind, 0, 10 ** 30, 0), 10 ** 30 // 2 - 1)
            self.assertEqual(self.at_once(splits, empty, kind, 0, 10 ** 30, 200), 0)
            self.assertEqual(self.at_once(split_levels, empty, kind, 0, 10 ** 60), 60)
            self.assertEqual(self.at_once(split_levels, empty, kind, 0, 10 ** 60 - 1), 0)
            self.assertEqual(self.at_once(split_levels, empty, kind, 0, 2 ** 199), 198)
            self.assertEqual(split_levels(empty, kind, 0, 1), 0)

    def test_agreement(self):
        picks = Picks(16)
        for at in range(250):
            numbers = great_rule(picks)
            levels = [[(0, 1)]] if at % 9 == 0 else great_levels(picks, numbers)
            index = PageIndex(Rule(*numbers), levels)
            gap = picks.one((0, index.entries, picks.great(0, index.entries)))
            level = picks.one((0, 1, index.height - 1, index.height, 200, picks.among(0, 200)))
            count = picks.one((1, 2, 10 ** 30, picks.great(1, 10 ** 30)))
            for kind in ("up", "down"):
                self.compare_moment(index, kind, gap, level, count)
                self.compare_parts(index, kind, gap, level, count, picks.great(1, 10 ** 30))

    def compare_moment(self, index, kind, gap, level, count):
        moment = self.at_once(split_moment, index, kind, gap, level, count)
        if moment <= 10 ** 60:
            self.assertGreater(self.at_once(split_levels, index, kind, gap, moment), level)
        if moment <= 10 ** 30:
            self.assertEqual(self.at_once(splits, index, kind, gap, moment, level), count)
            self.assertEqual(splits(index, kind, gap, moment - 1, level) if moment > 1 else 0, count - 1)
        else:
            self.assertLess(self.at_once(splits, index, kind, gap, 10 ** 30, level), count)
        if count > 1:
            self.assertTrue(split_moment(index, kind, gap, level, count - 1) < moment)

    def compare_parts(self, index, kind, gap, level, count, number):
        # The rest of a run has the splits that the run had not had before.
        behind = run(index, kind, gap, number)
        place = gap + number if kind == "up" else gap
        before = splits(index, kind, gap, number, level)
        pages = index.pages(level) if level < index.height else 1
        if level < behind.height:
            self.assertEqual(behind.pages(level), pages + before)
        else:
            self.assertEqual(before, 0)
        if before + count <= 10 ** 30:
            moment = split_moment(index, kind, gap, level, before + count)
            self.assertTrue(split_moment(behind, kind, place, level, count) == moment - number)

    def test_root(self):
        # A full root is split at the first insert, the next level comes up.
        many = 10 ** 30
        rule = Rule(many, many // 2, many, many // 2)
        index = PageIndex(rule, [[(many, many)], [(many, 1)]])
        for kind in ("up", "down"):
            self.assertEqual(self.at_once(split_levels, index, kind, 3, 1), 2)
            self.assertEqual([splits(index, kind, 3, 1, level) for level in (0, 1, 2, 200)], [1, 1, 0, 0])
            self.assertEqual([split_moment(index, kind, 3, level, 1) for level in (0, 1)], [1, 1])
        # Down, each b-th insert splits a leaf, and each q-th one of these a
        # page above; the new root has two of them at the first insert.
        goes = many - many // 2 + 1
        self.assertEqual(split_moment(index, "down", 3, 2, 1), 1 + (many - 1) * goes * goes)

    def test_a_full_path(self):
        tall = PageIndex(RULE, full_path_levels(100))
        for kind in ("up", "down"):
            self.assertEqual(self.at_once(split_levels, tall, kind, 1, 1), 100)
            self.assertEqual(split_levels(tall, kind, 4, 1), 0)
            self.assertEqual([splits(tall, kind, 2, 1, level) for level in (0, 99, 100, 200)], [1, 1, 0, 0])
            self.assertEqual([split_moment(tall, kind, 2, level, 1) for level in (0, 99)], [1, 1])
        self.assertEqual(split_moment(tall, "down", 2, 99, 10 ** 30), 1 + (10 ** 30 - 1) * 2 ** 100)
        self.assertEqual(split_moment(tall, "down", 2, 100, 1), 1 + 2 * 2 ** 100)

    def test_slow_levels(self):
        # The longest progressions: each level takes 3 * 10 ** 30 // 4 times as long.
        many = 10 ** 30
        rule = Rule(many, 3 * many // 4, many, 3 * many // 4)
        empty = new_index(rule)
        first, apart = many + 1, 3 * many // 4
        for level in range(201):
            if level in (0, 1, 2, 100, 200):
                self.assertTrue(self.at_once(split_moment, empty, "up", 0, level, 1) == first)
                self.assertTrue(self.at_once(split_moment, empty, "up", 0, level, many) == first + (many - 1) * apart)
            first, apart = first + (many - 1) * apart, apart * (3 * many // 4)


class WrongTest(Checked):
    def test_splits(self):
        self.assert_wrong(splits, (SOME, no_index()), ("up", no_kind()), (6, no_gap(6)), (10 ** 30, no_number()),
                          (200, no_level()))
        self.assert_wrong(splits, (new_index(RULE), no_index()), ("down", no_kind()), (0, no_gap(0)),
                          (1, no_number()), (0, no_level()))

    def test_split_moment(self):
        self.assert_wrong(split_moment, (SOME, no_index()), ("up", no_kind()), (6, no_gap(6)), (200, no_level()),
                          (10 ** 30, no_number()))
        self.assert_wrong(split_moment, (new_index(RULE), no_index()), ("down", no_kind()), (0, no_gap(0)),
                          (0, no_level()), (1, no_number()))

    def test_split_levels(self):
        self.assert_wrong(split_levels, (SOME, no_index()), ("up", no_kind()), (6, no_gap(6)),
                          (10 ** 60, no_number(10 ** 60)))
        self.assert_wrong(split_levels, (new_index(RULE), no_index()), ("down", no_kind()), (0, no_gap(0)),
                          (1, no_number(10 ** 60)))


if __name__ == "__main__":
    unittest.main()
