import copy
import unittest

from checked import Checked, no_gap, no_index, no_kind, no_number, numbers_beyond, told
from counting import NO_INTEGERS, Counted, Same
from leafsplits.errors import InvalidEntry, InvalidScript
from leafsplits.indexes import PageIndex, new_index
from leafsplits.rules import Rule
from leafsplits.runs import dropped, played, run
from picking import Picks, all_rules, full_path_levels, great_levels, great_rule, some_levels
from putting import Put

RULE = Rule(3, 2, 3, 2)
SOME = PageIndex(RULE, [[(3, 2)], [(2, 1)]])
EXTREME_RULES = ((3, 2, 3, 2), (7, 2, 7, 2), (7, 6, 7, 6), (7, 2, 3, 2), (3, 2, 7, 6), (7, 6, 4, 2), (6, 5, 6, 2),
                 (4, 3, 5, 4), (5, 2, 4, 3))


def step_of(picks, entries, most):
    """A step for an index with so many entries."""
    if entries > 0 and picks.among(0, 2) == 0:
        first = picks.among(1, entries)
        return ("drop", first, picks.among(first, entries))
    return (picks.one(("up", "down")), picks.among(0, entries), picks.among(1, most))


class ExampleTest(unittest.TestCase):
    def test_runs(self):
        self.assertEqual(run(SOME, "up", 2, 5).levels, [[(2, 4), (3, 1)], [(2, 1), (3, 1)], [(2, 1)]])
        self.assertEqual(run(SOME, "down", 2, 5).levels, [[(2, 4), (3, 1)], [(3, 1), (2, 1)], [(2, 1)]])

    def test_drops(self):
        self.assertEqual(dropped(SOME, 2, 4).levels, [[(1, 1), (2, 1)], [(2, 1)]])
        self.assertEqual(dropped(SOME, 3, 6).levels, [[(2, 1)]])

    def test_script(self):
        self.assertEqual(played(SOME, [("up", 6, 1), ("drop", 1, 5)]).levels, [[(2, 1)]])


class SmallRunTest(Checked):
    def compare(self, numbers, levels, kind, gap, number):
        """Compares the index behind each part of a run."""
        rule = Rule(*numbers)
        index = PageIndex(rule, levels)
        model = Put(numbers, levels)
        place = model.place(gap)
        for done in range(1, number + 1):
            entry, _ = model.insert(place)
            place = entry if kind == "up" else place
            behind = run(index, kind, gap, done)
            self.assertEqual(behind.levels, told(model), (numbers, levels, kind, gap, done))
            self.assertEqual(behind.rule, rule)
        self.assert_sound(behind, index.entries + number)

    def test_all_small_rules(self):
        picks = Picks(1)
        for numbers in all_rules(3, 7):
            for kind in ("up", "down"):
                levels = some_levels(picks, numbers, picks.among(0, 10))
                gap = picks.among(0, sum(size * times for size, times in levels[0]))
                self.compare(numbers, levels, kind, gap, 40)

    def test_every_gap(self):
        picks = Picks(2)
        for numbers in EXTREME_RULES:
            for leaves in range(11):
                levels = some_levels(picks, numbers, leaves)
                index = PageIndex(Rule(*numbers), levels)
                for gap in range(index.entries + 1):
                    for kind in ("up", "down"):
                        model = Put(numbers, levels)
                        model.run(kind, gap, 25)
                        self.assertEqual(run(index, kind, gap, 25).levels, told(model), (numbers, levels, kind, gap))

    def test_full_pages(self):
        # One insert splits the leaf, every page above it and the root.
        for numbers in EXTREME_RULES:
            leaf, _, inner, _ = numbers
            levels = [[(leaf, inner * inner)], [(inner, inner)], [(inner, 1)]]
            for gap in range(0, leaf * inner * inner + 1, 5):
                for kind in ("up", "down"):
                    self.compare(numbers, levels, kind, gap, 6)

    def test_long_runs(self):
        picks = Picks(3)
        for numbers in EXTREME_RULES:
            for kind in ("up", "down"):
                for leaves in (0, 1, 9):
                    levels = some_levels(picks, numbers, leaves)
                    gap = picks.among(0, sum(size * times for size, times in levels[0]))
                    model = Put(numbers, levels)
                    model.run(kind, gap, 400)
                    behind = run(PageIndex(Rule(*numbers), levels), kind, gap, 400)
                    self.assertEqual(behind.levels, told(model), (numbers, levels, kind, gap))

    def test_index_without_entries(self):
        for numbers in EXTREME_RULES:
            for kind in ("up", "down"):
                self.compare(numbers, [[(0, 1)]], kind, 0, 60)
        self.assertEqual(run(new_index(RULE), "up", 0, 1).levels, [[(1, 1)]])
        self.assertEqual(run(new_index(RULE), "down", 0, 3).levels, [[(3, 1)]])
        self.assertEqual(run(new_index(RULE), "down", 0, 4).levels, [[(2, 2)], [(2, 1)]])

    def test_last_new_entry_is_the_last_one_that_stays(self):
        # The leaf (3 entries ahead, 2 behind) is split behind its new entry,
        # so the run goes on in the left part.
        index = PageIndex(Rule(5, 4, 3, 2), [[(5, 1)]])
        self.assertEqual(run(index, "up", 3, 1).levels, [[(4, 1), (2, 1)], [(2, 1)]])
        self.assertEqual(run(index, "up", 3, 2).levels, [[(5, 1), (2, 1)], [(2, 1)]])
        self.assertEqual(run(index, "down", 4, 2).levels, [[(5, 1), (2, 1)], [(2, 1)]])
        self.assertEqual(run(index, "down", 5, 2).levels, [[(4, 1), (3, 1)], [(2, 1)]])


class DropTest(Checked):
    def test_every_range(self):
        picks = Picks(4)
        for numbers in EXTREME_RULES:
            for leaves in range(1, 11):
                levels = some_levels(picks, numbers, leaves)
                index = PageIndex(Rule(*numbers), levels)
                for first in range(1, index.entries + 1):
                    for last in range(first, index.entries + 1):
                        model = Put(numbers, levels)
                        model.drop(first, last)
                        behind = dropped(index, first, last)
                        self.assertEqual(behind.levels, told(model), (levels, first, last))
                self.assertEqual(index.levels, told(Put(numbers, levels)))

    def test_edges(self):
        index = PageIndex(RULE, [[(1, 1), (3, 4), (2, 1)], [(3, 2)], [(2, 1)]])
        self.assertEqual(dropped(index, 1, 15).levels, [[(0, 1)]])
        self.assertEqual(dropped(index, 1, 15), new_index(RULE))
        self.assertEqual(dropped(index, 2, 15).levels, [[(1, 1)]])
        self.assertEqual(dropped(index, 1, 14).levels, [[(1, 1)]])
        self.assertEqual(dropped(index, 1, 1).levels, [[(3, 4), (2, 1)], [(2, 1), (3, 1)], [(2, 1)]])
        self.assertEqual(dropped(index, 15, 15).levels, [[(1, 1), (3, 4), (1, 1)], [(3, 2)], [(2, 1)]])
        self.assertEqual(dropped(index, 2, 4).levels, [[(1, 1), (3, 3), (2, 1)], [(2, 1), (3, 1)], [(2, 1)]])
        # Pages above with one child stay, pages without any go.
        self.assertEqual(dropped(index, 5, 13).levels, [[(1, 1), (3, 1), (2, 1)], [(2, 1), (1, 1)], [(2, 1)]])
        self.assertEqual(dropped(index, 2, 13).levels, [[(1, 1), (2, 1)], [(1, 2)], [(2, 1)]])
        self.assertEqual(dropped(index, 8, 15).levels, [[(1, 1), (3, 2)], [(3, 1)]])
        full = PageIndex(RULE, [[(3, 27)], [(3, 9)], [(3, 3)], [(3, 1)]])
        self.assertEqual(dropped(full, 1, 80).levels, [[(1, 1)]])
        self.assertEqual(dropped(full, 1, 54).levels, [[(3, 9)], [(3, 3)], [(3, 1)]])

    def test_runs_into_pages_with_one_child(self):
        index = PageIndex(RULE, [[(3, 9)], [(3, 3)], [(3, 1)]])
        thin = dropped(index, 4, 18)
        self.assertEqual(thin.levels, [[(3, 4)], [(1, 1), (3, 1)], [(2, 1)]])
        for kind in ("up", "down"):
            for gap in range(thin.entries + 1):
                model = Put((3, 2, 3, 2), index.levels)
                model.drop(4, 18)
                for done in range(1, 20):
                    model = Put((3, 2, 3, 2), index.levels)
                    model.drop(4, 18)
                    model.run(kind, gap, done)
                    self.assertEqual(run(thin, kind, gap, done).levels, told(model))

    def test_great_drops(self):
        many = 10 ** 30
        rule = Rule(many, many // 2, many, many // 2)
        index = PageIndex(rule, [[(many, many), (5, 7), (many, many)], [(many, 1), (7, 1), (many, 1)], [(3, 1)]])
        square = many * many
        behind = self.at_once(dropped, index, 2, 2 * square + 34)
        self.assertEqual(behind.levels, [[(1, 2)], [(1, 2)], [(2, 1)]])
        behind = self.at_once(dropped, index, square + 1, square + 35)
        self.assertEqual(behind.levels, [[(many, 2 * many)], [(many, 2)], [(2, 1)]])
        behind = self.at_once(dropped, index, square + 5, square + 31)
        self.assertEqual(behind.levels, [[(many, many), (4, 2), (many, many)], [(many, 1), (2, 1), (many, 1)], [(3, 1)]])
        behind = self.at_once(dropped, index, square + 7, square + 7)
        told_levels = [[(many, many), (5, 1), (4, 1), (5, 5), (many, many)], [(many, 1), (7, 1), (many, 1)], [(3, 1)]]
        self.assertEqual(behind.levels, told_levels)
        behind = self.at_once(dropped, index, many + 1, 2 * square + 35 - many)
        self.assertEqual(behind.levels, [[(many, 2)], [(1, 2)], [(2, 1)]])
        behind = self.at_once(dropped, index, square - many + 1, 2 * square + 35)
        self.assertEqual(behind.levels, [[(many, many - 1)], [(many - 1, 1)]])

    def test_great_drops_in_parts(self):
        picks = Picks(5)
        for _ in range(150):
            numbers = great_rule(picks)
            index = PageIndex(Rule(*numbers), great_levels(picks, numbers))
            first = picks.great(1, index.entries)
            last = picks.great(first, index.entries)
            whole = self.at_once(dropped, index, first, last)
            self.assert_sound(whole, index.entries - (last + 1 - first))
            if first < last:
                middle = picks.great(first + 1, last)
                behind = dropped(dropped(index, middle, last), first, middle - 1)
                self.assertTrue(behind == whole, (numbers, index.levels, first, middle, last))


class ScriptTest(Checked):
    def test_scripts(self):
        picks = Picks(6)
        for _ in range(300):
            numbers = picks.one(all_rules(3, 7))
            levels = some_levels(picks, numbers, picks.among(0, 10))
            index = PageIndex(Rule(*numbers), levels)
            model = Put(numbers, levels)
            script = []
            behind = index
            for _ in range(picks.among(0, 12)):
                step = step_of(picks, len(model.entries), 30)
                model.step(step)
                script.append(step)
                behind = dropped(behind, *step[1:]) if step[0] == "drop" else run(behind, *step)
                self.assertEqual(behind.levels, told(model), (numbers, levels, script))
                self.assert_sound(behind, len(model.entries))
            before = list(script)
            self.assertEqual(played(index, script), behind)
            self.assertEqual(script, before)

    def test_empty_script(self):
        self.assertEqual(played(SOME, []), SOME)
        self.assertEqual(played(new_index(RULE), []), new_index(RULE))

    def test_twelve_steps(self):
        script = [("up", 6 + at, 1) for at in range(12)]
        self.assertEqual(played(SOME, script), run(SOME, "up", 6, 12))
        script = [("up", 0, 10 ** 30), ("drop", 1, 10 ** 30)] * 6
        self.assertEqual(self.at_once(played, new_index(RULE), script), new_index(RULE))

    def test_all_levels_of_a_tall_index(self):
        # The first pages of all hundred levels are full.
        tall = PageIndex(RULE, full_path_levels(100))
        behind = self.at_once(run, tall, "up", 3, 1)
        self.assertEqual([behind.height, behind.levels[0], behind.levels[100]], [101, [(2, 2), (1, 198)], [(2, 1)]])
        self.assert_sound(behind, tall.entries + 1)
        self.assertEqual(dropped(behind, 1, 1).height, 101)
        narrow = PageIndex(RULE, [[(3, 2)]] + [[(1, 2)]] * 98 + [[(2, 1)]])
        behind = self.at_once(run, narrow, "down", 3, 10 ** 30)
        self.assert_sound(behind, 6 + 10 ** 30)
        again = self.at_once(run, behind, "up", 10 ** 29, 10 ** 30)
        self.assert_sound(again, 6 + 2 * 10 ** 30)

    def test_indexes_of_many_tuples(self):
        # What the package returned is passed on, however many tuples it has.
        index = run(new_index(RULE), "up", 0, 10 ** 30)
        for at in range(200):
            index = run(index, ("up", "down")[at % 2], at * (index.entries // 200), 10 ** 29 + at)
        self.assert_sound(index, 10 ** 30 + 200 * 10 ** 29 + 19900)
        self.assertGreater(len(index.levels[0]), 150)
        self.assertEqual(dropped(index, 2, index.entries - 1).levels[0], [(1, 2)])
        self.assertEqual(played(index, [("drop", 1, 10 ** 30), ("drop", 1, 10 ** 30)]), dropped(index, 1, 2 * 10 ** 30))


class GreatRunTest(Checked):
    def test_runs_in_parts(self):
        picks = Picks(7)
        for at in range(400):
            numbers = great_rule(picks)
            levels = [[(0, 1)]] if at % 8 == 0 else great_levels(picks, numbers)
            index = PageIndex(Rule(*numbers), levels)
            gap = picks.one((0, index.entries, picks.great(0, index.entries)))
            number = picks.one((3, 10 ** 30, picks.great(3, 10 ** 30)))
            one = picks.great(1, number - 2)
            other = picks.great(1, number - one - 1)
            for kind in ("up", "down"):
                whole = self.at_once(run, index, kind, gap, number)
                self.assert_sound(whole, index.entries + number)
                gaps = (gap, gap + one, gap + one + other) if kind == "up" else (gap, gap, gap)
                parts = (one, other, number - one - other)
                two = run(run(index, kind, gap, one), kind, gaps[1], number - one)
                self.assertTrue(two == whole, (numbers, levels, kind, gap, one, number))
                three = played(index, [(kind, place, part) for place, part in zip(gaps, parts)])
                self.assertTrue(three == whole, (numbers, levels, kind, gap, one, other, number))

    def test_loads_of_full_pages(self):
        # Up: all leaves but the last one have the entries that stay.
        many = 10 ** 30
        behind = self.at_once(run, new_index(RULE), "up", 0, many)
        self.assertEqual(behind.levels[0], [(2, many // 2)])
        self.assertEqual(behind.levels[1], [(2, many // 4)])
        behind = self.at_once(run, new_index(RULE), "up", 0, many - 1)
        self.assertEqual(behind.levels[0], [(2, many // 2 - 2), (3, 1)])
        rule = Rule(many, many // 4 + 1, many, many // 2)
        behind = self.at_once(run, PageIndex(rule, [[(many, 1)]]), "down", many, many)
        # The last old entry goes right three times, then it stays left.
        pages = [(25 * 10 ** 28 + 1, 3), (5 * 10 ** 29 - 3, 1), (75 * 10 ** 28, 1)]
        self.assertEqual(behind.levels, [pages, [(5, 1)]])

    def test_one_entry(self):
        many = 10 ** 30
        rule = Rule(many, many // 2, many, many // 2 + 1)
        index = PageIndex(rule, [[(many, many)], [(many, 1)]])
        behind = self.at_once(run, index, "up", 0, 1)
        self.assertEqual(behind.levels, [[(many // 2, 1), (many // 2 + 1, 1), (many, many - 1)],
                                         [(many // 2 + 1, 1), (many // 2, 1)], [(2, 1)]])
        behind = self.at_once(run, index, "down", index.entries, 1)
        self.assertEqual(behind.levels, [[(many, many - 1), (many // 2, 1), (many // 2 + 1, 1)],
                                         [(many // 2 + 1, 1), (many // 2, 1)], [(2, 1)]])


class WrongTest(Checked):
    def test_run(self):
        self.assert_wrong(run, (SOME, no_index()), ("up", no_kind()), (6, no_gap(6)), (10 ** 30, no_number()))
        self.assert_wrong(run, (new_index(RULE), no_index()), ("down", no_kind()), (0, no_gap(0)), (1, no_number()))

    def test_dropped(self):
        def no_entry(least, most):
            return [(value, InvalidEntry) for value in numbers_beyond(least, most)]

        self.assert_wrong(dropped, (SOME, no_index()), (1, no_entry(1, 6)), (1, no_entry(1, 6)))
        self.assert_wrong(dropped, (SOME, no_index()), (6, no_entry(1, 6)), (6, no_entry(6, 6)))
        for last in range(-1, 4):
            self.assert_raises(InvalidEntry, None, dropped, (SOME, 4, last))
        for first in (0, 1):
            self.assert_raises(InvalidEntry, None, dropped, (new_index(RULE), first, first))

    def test_no_script(self):
        steps = [("up", 0, 1)]
        wrong = [*NO_INTEGERS, tuple(steps), "up", {0: steps[0]}, steps[0], 1, steps * 13, steps * 100, [None] * 13]
        for value in wrong:
            if type(value) is list and len(value) <= 12:
                continue
            self.assert_raises(InvalidScript, None, played, (SOME, value))
            self.assert_raises(no_index()[0][1], None, played, (None, value))
        self.assert_wrong(played, (SOME, no_index()), ([], [(None, InvalidScript), ((), InvalidScript)]))

    def test_no_steps(self):
        bad_words = [*NO_INTEGERS, 0, "Up", "UP", "Drop", "up ", "u", "updown", b"up", ("up",), ["drop"], "run"]
        wrong = [*NO_INTEGERS, 0, "up", [], ["up", 0, 1], ("up",), ("up", 0), ("up", 0, 1, 1), ("drop", 1),
                 ("drop", 1, 1, 1), ("up", (0, 1)), (("up", 0, 1),), [("up", 0, 1)], ("up", 0, [1]), ("up", [0], 1),
                 ["drop", 1, 1], {"up": 0}, "up 0 1", (0, "up", 1), ("drop", 1, None), ("undo", 1, 1)]
        wrong += [(word, 1, 1) for word in bad_words]
        wrong += [(kind, value, 1) for kind in ("up", "down") for value in numbers_beyond(0, 7)]
        wrong += [(kind, 1, value) for kind in ("up", "down") for value in numbers_beyond(1, 10 ** 30)]
        wrong += [("drop", value, 7) for value in numbers_beyond(1, 7)]
        wrong += [("drop", 3, value) for value in numbers_beyond(3, 7)]
        good = [("up", 6, 1), ("up", 7, 1), ("drop", 7, 7)]
        self.assertEqual(played(SOME, [*good, ("up", 7, 10 ** 30), ("drop", 7, 7)]).entries, 10 ** 30 + 6)
        for value in wrong:
            self.assert_raises(InvalidScript, 3, played, (SOME, [*good, value]))
            self.assert_raises(InvalidScript, 3, played, (SOME, [*good, value, value, None]))

    def test_the_first_wrong_step_counts(self):
        for script, step in (([("up", 7, 1), None], 0), ([("up", 6, 1), ("up", 8, 1), None], 1),
                             ([("drop", 1, 6), ("up", 1, 1)], 1), ([("drop", 1, 6), ("drop", 1, 1)], 1),
                             ([("drop", 1, 6), ("up", 0, 2), ("drop", 2, 3)], 2),
                             ([("drop", 1, 6), ("up", 0, 2), ("drop", 2, 2), ("down", 2, 1)], 3),
                             ([("up", 0, 1)] * 11 + [("up", 0, 0)], 11)):
            self.assert_raises(InvalidScript, step, played, (SOME, script))

    def test_same_as_anything(self):
        self.assert_raises(InvalidScript, 0, played, (SOME, [(Same(), 0, 1)]))
        self.assert_raises(InvalidScript, 0, played, (SOME, [("up", Same(), 1)]))


class ArgumentTest(Checked):
    def test_nothing_is_changed(self):
        levels = [[(3, 2)], [(2, 1)]]
        index = PageIndex(RULE, levels)
        behind = run(index, "up", 2, 5)
        again = dropped(behind, 1, 3)
        script = [("up", 2, 5), ("drop", 1, 3)]
        kept = copy.deepcopy(script)
        end = played(index, script)
        self.assertEqual(script, kept)
        script.clear()
        levels[0].append((1, 1))
        for changed in (index.levels, behind.levels, again.levels, end.levels):
            for level in changed:
                level.append((9, 9))
            changed.append([])
        self.assertEqual(index.levels, [[(3, 2)], [(2, 1)]])
        self.assertEqual(behind.levels, [[(2, 4), (3, 1)], [(2, 1), (3, 1)], [(2, 1)]])
        self.assertEqual(again, end)
        self.assertEqual(again.levels, [[(1, 1), (2, 2), (3, 1)], [(1, 1), (3, 1)], [(2, 1)]])

    def test_results_are_indexes(self):
        behind = run(SOME, "up", 2, 5)
        self.assertIs(type(behind), PageIndex)
        self.assertEqual(behind, PageIndex(RULE, behind.levels))
        self.assertEqual([behind.entries, behind.height, behind.pages(1), behind.path(11)], [11, 3, 2, [4, 1, 0]])
        self.assertEqual(Counted([[1, 2], [2]]).together(), dropped(SOME, 2, 4).levels)


if __name__ == "__main__":
    unittest.main()
