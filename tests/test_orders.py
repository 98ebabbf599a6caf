import itertools
import math
import unittest

from checked import Checked, no_index, no_level, numbers_beyond
from counting import NO_INTEGERS, Same
from leafsplits.errors import InvalidIndex, InvalidLevel, InvalidRuns
from leafsplits.indexes import PageIndex, new_index
from leafsplits.loads import loaded
from leafsplits.orders import commute, least_order, most_order
from leafsplits.rules import Rule
from leafsplits.runs import run
from picking import EvenPicks, all_rules, full_path_levels, great_levels, great_rule, some_levels
from putting import Put

RULE = Rule(3, 2, 3, 2)
SOME = PageIndex(RULE, [[(3, 2)], [(2, 1)]])
MANY = 10 ** 30


def put_in(numbers, levels, runs, order):
    """The model behind the runs in this sequence, all entries put in one by one."""
    model = Put(numbers, levels)
    places = [model.place(gap) for _, gap, _ in runs]
    for at in order:
        kind, _, number = runs[at]
        place = places[at]
        for _ in range(number):
            entry, _ = model.insert(place)
            place = entry if kind == "up" else place
    return model


def run_in(index, runs, order):
    """The index behind the runs in this sequence."""
    done = []
    for at in order:
        kind, gap, number = runs[at]
        index = run(index, kind, gap + sum(runs[other][2] for other in done if runs[other][1] < gap), number)
        done.append(at)
    return index


def best(counts, pick):
    """What the least or the greatest of some tuples (pages, order) tells."""
    pages = pick(count for count, _ in counts)
    orders = sorted(list(order) for count, order in counts if count == pages)
    return (pages, len(orders), orders[0])


def some_runs(picks, entries, many, most):
    return [(picks.one(("up", "down")), picks.among(0, entries), picks.among(1, most)) for _ in range(many)]


class ExampleTest(unittest.TestCase):
    def test_example(self):
        self.assertEqual([commute(SOME, ("up", 2, 1), ("up", 5, 1)),
                          least_order(SOME, [("up", 2, 1), ("down", 5, 1)], 0)], [True, (4, 2, [0, 1])])


class SmallTest(Checked):
    def compare(self, numbers, levels, runs):
        """Compares all answers with all sequences, entry by entry; whether the sequence matters."""
        index = PageIndex(Rule(*numbers), levels)
        orders = list(itertools.permutations(range(len(runs))))
        models = [put_in(numbers, index.levels, runs, order) for order in orders]
        counts = [model.counts() for model in models]
        what = (numbers, levels, runs)
        matters = False
        for level in [*range(max(len(count) for count in counts) + 1), 200]:
            found = [(count[level] if level < len(count) else 0, order) for count, order in zip(counts, orders)]
            least, most = least_order(index, runs, level), most_order(index, runs, level)
            self.assertEqual(least, best(found, min), (what, level))
            self.assertEqual(most, best(found, max), (what, level))
            self.assertEqual([type(least), type(least[2])], [tuple, list])
            matters = matters or least[0] != most[0]
        if len(runs) == 2:
            sizes = [model.sizes() for model in models]
            self.assertEqual(commute(index, *runs), sizes[0] == sizes[1], what)
            self.assertEqual(commute(index, *reversed(runs)), sizes[0] == sizes[1], what)
        return matters

    def test_one_and_two_runs(self):
        picks = EvenPicks(71)
        matter = 0
        for numbers in all_rules(3, 7):
            for many in (1, 2, 2):
                levels = some_levels(picks, numbers, picks.among(0, 9))
                entries = sum(size * times for size, times in levels[0])
                matter += self.compare(numbers, levels, some_runs(picks, entries, many, 12))
        self.assertGreater(matter, 60)

    def test_three_to_five_runs(self):
        picks = EvenPicks(72)
        matter = 0
        for many, times in ((3, 60), (4, 20), (5, 7)):
            for _ in range(times):
                numbers = picks.one(all_rules(3, 5))
                levels = some_levels(picks, numbers, picks.among(1, 5))
                entries = sum(size * times for size, times in levels[0])
                matter += self.compare(numbers, levels, some_runs(picks, entries, many, 7))
        self.assertGreater(matter, 40)

    def test_every_pair_of_gaps(self):
        for levels in ([[(3, 1), (2, 1)], [(2, 1)]], [[(1, 1)]], [[(3, 1)]]):
            entries = sum(size * times for size, times in levels[0])
            for kinds in itertools.product(("up", "down"), repeat=2):
                for gaps in itertools.product(range(entries + 1), repeat=2):
                    for most in ((1, 1), (2, 3), (5, 2)):
                        self.compare((3, 2, 3, 2), levels, list(zip(kinds, gaps, most)))

    def test_runs_at_one_gap(self):
        picks = EvenPicks(73)
        for numbers in ((3, 2, 3, 2), (7, 2, 5, 3), (7, 6, 4, 3)):
            for gap in (0, 1, 5):
                for many in (2, 3):
                    runs = [(picks.one(("up", "down")), gap, picks.among(1, 9)) for _ in range(many)]
                    self.compare(numbers, [[(2, 1), (3, 1)], [(2, 1)]], runs)

    def test_index_without_entries(self):
        for numbers in ((3, 2, 3, 2), (7, 2, 5, 3)):
            for kinds in itertools.product(("up", "down"), repeat=3):
                self.compare(numbers, [[(0, 1)]], [(kind, 0, number) for kind, number in zip(kinds, (3, 1, 8))])
                self.compare(numbers, [[(0, 1)]], [(kinds[0], 0, 4), (kinds[1], 0, 5)])

    def test_equal_runs(self):
        # Also equal items are counted by their numbers.
        index = PageIndex(RULE, [[(1, 1)]])
        for many in range(1, 6):
            runs = [("up", 1, 2)] * many
            found = least_order(index, runs, 0)
            self.assertEqual(found[1:], (math.factorial(many), list(range(many))))
            self.assertEqual(most_order(index, runs, 0), found)
        self.assertTrue(commute(index, ("down", 0, 3), ("down", 0, 3)))

    def test_one_number_of_pages(self):
        # No leaf is split, so each sequence is as good as the others.
        index = PageIndex(Rule(100, 50, 3, 2), [[(10, 3)], [(3, 1)]])
        runs = [("up", 0, 4), ("down", 10, 4), ("up", 30, 4), ("down", 15, 4), ("up", 11, 4)]
        for level, pages in ((0, 3), (1, 1), (2, 0), (200, 0)):
            self.assertEqual(least_order(index, runs, level), (pages, 120, [0, 1, 2, 3, 4]))
            self.assertEqual(most_order(index, runs, level), (pages, 120, [0, 1, 2, 3, 4]))
        self.assertTrue(commute(index, runs[0], runs[1]))

    def test_a_level_that_comes_up(self):
        full = PageIndex(RULE, [[(3, 3)], [(3, 1)]])
        self.assertEqual(least_order(full, [("up", 0, 1)], 2), (1, 1, [0]))
        self.assertEqual(most_order(full, [("up", 0, 1)], 1), (2, 1, [0]))
        self.assertEqual(most_order(full, [("up", 0, 1)], 3), (0, 1, [0]))
        self.assertEqual(least_order(SOME, [("up", 0, 1)], 2), (0, 1, [0]))


class GreatTest(Checked):
    def compare(self, index, runs, levels):
        orders = list(itertools.permutations(range(len(runs))))
        behind = [run_in(index, runs, order) for order in orders]
        for level in levels:
            counts = [(one.pages(level) if level < one.height else 0, order) for one, order in zip(behind, orders)]
            self.assertTrue(self.at_once(least_order, index, runs, level) == best(counts, min), (index.levels, runs))
            self.assertTrue(self.at_once(most_order, index, runs, level) == best(counts, max), (index.levels, runs))
        if len(runs) == 2:
            self.assertEqual(self.at_once(commute, index, *runs), behind[0] == behind[1])
        return len(behind) > 1 and any(behind[0] != other for other in behind)

    def test_great_indexes(self):
        picks = EvenPicks(74)
        matter = 0
        for at in range(120):
            numbers = great_rule(picks)
            levels = [[(0, 1)]] if at % 9 == 0 else great_levels(picks, numbers)
            index = PageIndex(Rule(*numbers), levels)
            gaps = [picks.one((0, index.entries, picks.great(0, index.entries))) for _ in range(4)]
            runs = [(picks.one(("up", "down")), picks.one(gaps), picks.one((MANY, picks.great(1, MANY))))
                    for _ in range(picks.one((1, 2, 2, 3)))]
            height = index.height
            matter += self.compare(index, runs, (0, 1, height - 1, height, 200))
        self.assertGreater(matter, 15)

    def test_five_runs(self):
        index = loaded(Rule(MANY, MANY // 2, 9, 4), "up", MANY)
        runs = [("up", 7, MANY), ("down", MANY // 2, MANY), ("up", MANY // 2, MANY // 3), ("down", 0, MANY),
                ("up", MANY, MANY)]
        self.compare(index, runs, (0, 1, 2))

    def test_tall_indexes(self):
        tall = PageIndex(RULE, full_path_levels(100))
        runs = [("up", 1, 1), ("down", 4, 1), ("up", 0, MANY)]
        self.compare(tall, runs, (0, 50, 99, 100, 101, 200))


class WrongTest(Checked):
    def test_no_lists(self):
        item = ("up", 0, 1)
        wrong = [*NO_INTEGERS, (item,), item, {0: item}, "up", 1, [item] * 6, [item] * 400, [None] * 6]
        for function in (least_order, most_order):
            for value in wrong:
                if type(value) is list and 1 <= len(value) <= 5:
                    continue
                self.assert_raises(InvalidRuns, None, function, (SOME, value, 0))
                self.assert_raises(InvalidRuns, None, function, (SOME, value, None))
                self.assert_raises(InvalidIndex, None, function, (RULE, value, 0))

    def wrong_runs(self):
        """Values that are no runs of an index with 6 entries."""
        words = [*NO_INTEGERS, 0, "Up", "drop", "up ", "u", "updown", b"up", ("up",), ["up"], Same()]
        wrong = [*NO_INTEGERS, 0, "up", [], ["up", 0, 1], ("up",), ("up", 0), ("up", 0, 1, 1), ("drop", 1, 1),
                 ("up", (0, 1)), (("up", 0, 1),), [("up", 0, 1)], ("up", [0], 1), {"up": 0}, (0, "up", 1)]
        wrong += [(word, 1, 1) for word in words]
        wrong += [(kind, value, 1) for kind in ("up", "down") for value in numbers_beyond(0, 6)]
        wrong += [(kind, 1, value) for kind in ("up", "down") for value in numbers_beyond(1, MANY)]
        return wrong

    def test_no_runs(self):
        good = [("up", 6, 1), ("down", 0, MANY)]
        for value in self.wrong_runs():
            for function in (least_order, most_order):
                self.assert_raises(InvalidRuns, 2, function, (SOME, [*good, value, None, value], 0))
                self.assert_raises(InvalidRuns, 0, function, (SOME, [value, None], False))
            self.assert_raises(InvalidRuns, 0, commute, (SOME, value, good[0]))
            self.assert_raises(InvalidRuns, 0, commute, (SOME, value, value))
            self.assert_raises(InvalidRuns, 1, commute, (SOME, good[0], value))
            self.assert_raises(InvalidIndex, None, commute, (None, value, value))

    def test_gaps_are_those_of_the_index(self):
        # The second gap would be there behind the first run.
        self.assert_raises(InvalidRuns, 1, least_order, (SOME, [("up", 6, 5), ("up", 7, 1)], 0))
        self.assert_raises(InvalidRuns, 1, commute, (SOME, ("up", 6, 5), ("up", 7, 1)))

    def test_level(self):
        runs = [("up", 6, 1), ("down", 0, 1)]
        no_runs = [(None, InvalidRuns), ((), InvalidRuns), ([], InvalidRuns)]
        for function in (least_order, most_order):
            for level in (0, 200):
                self.assert_wrong(function, (SOME, no_index()), (runs, no_runs), (level, no_level()))
        self.assertEqual(no_level()[0][1], InvalidLevel)

    def test_new_lists(self):
        runs = [("up", 2, 1), ("down", 5, 1)]
        found = least_order(SOME, runs, 0)
        found[2].clear()
        self.assertEqual(runs, [("up", 2, 1), ("down", 5, 1)])
        self.assertEqual(least_order(SOME, runs, 0), (4, 2, [0, 1]))
        self.assertEqual(least_order(new_index(RULE), [("up", 0, 1)], 0), (1, 1, [0]))


if __name__ == "__main__":
    unittest.main()
