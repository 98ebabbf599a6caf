import unittest

from checked import Checked, no_entry, no_gap, no_index, no_kind, no_number, numbers_beyond, told
from counting import NO_INTEGERS, Same
from leafsplits import errors
from leafsplits.indexes import PageIndex, new_index
from leafsplits.live import BudgetIndex, LiveIndex
from leafsplits.loads import loaded
from leafsplits.rules import Rule
from leafsplits.runs import dropped, played, run
from picking import EvenPicks, all_rules, full_path_levels, great_levels, great_rule, some_levels, some_step
from putting import Put

RULE = Rule(3, 2, 3, 2)
SOME = PageIndex(RULE, [[(3, 2)], [(2, 1)]])
MANY = 10 ** 30
STEPS = (("up", 2, 5), ("down", 2, 5), ("drop", 2, 4), ("drop", 1, 6))


def count(index):
    """How many pages all levels of an index have together."""
    return sum(index.pages(level) for level in range(index.height))


def call(live, step):
    """Does a step by its method."""
    word, first, second = step
    return live.drop(first, second) if word == "drop" else live.run(word, first, second)


class ExampleTest(unittest.TestCase):
    def test_example(self):
        live = LiveIndex(SOME)
        found = [live.all_pages(), live.run("up", 2, 5), live.all_pages(), live.log(), live.preview(("drop", 1, 2)),
                 live.undo(), live.present == SOME]
        self.assertEqual(found, [3, None, 8, [("up", 2, 5)], 7, None, True])
        with self.assertRaises(errors.OverBudget) as caught:
            BudgetIndex(SOME, 2)
        self.assertEqual(caught.exception.count, 3)


class FormTest(unittest.TestCase):
    def test_classes(self):
        self.assertTrue(issubclass(BudgetIndex, LiveIndex))
        for word in ("run", "drop", "undo", "log", "all_pages", "preview", "__init__", "__eq__"):
            self.assertTrue(callable(vars(LiveIndex)[word]))
        self.assertIsInstance(vars(LiveIndex)["present"], property)
        self.assertIsInstance(vars(BudgetIndex)["budget"], property)
        for live, word in ((LiveIndex(SOME), "present"), (BudgetIndex(SOME, 3), "budget")):
            with self.assertRaises(AttributeError):
                setattr(live, word, SOME)


class LiveChecked(Checked):
    def assert_refuses(self, error, field, live, method, arguments):
        """Whether a call of a method raises just this error, and changes nothing."""
        before, steps, pages = live.present, live.log(), live.all_pages()
        self.assert_raises(error, field, getattr(live, method), arguments)
        self.assertIs(live.present, before)
        self.assertEqual([live.log(), live.all_pages()], [steps, pages])


class CallTest(LiveChecked):
    def test_against_pages(self):
        picks = EvenPicks(101)
        for _ in range(120):
            numbers = picks.one(all_rules(3, 6))
            levels = some_levels(picks, numbers, picks.among(0, 8))
            index = PageIndex(Rule(*numbers), levels)
            model = Put(numbers, levels)
            live = LiveIndex(index)
            states = [(index, [])]
            for _ in range(picks.among(1, 9)):
                step = some_step(picks, len(model.entries), 20)
                previewed = live.preview(step)
                model.step(step)
                self.assertIsNone(call(live, step))
                self.assertEqual(live.present.levels, told(model))
                self.assertEqual(live.all_pages(), sum(model.counts()))
                self.assertEqual(previewed, sum(model.counts()))
                states.append((live.present, live.log()))
                self.assertEqual(live.log(), [*states[-2][1], step])
            self.assertEqual(played(index, live.log()), live.present)
            self.assert_undone(live, states)

    def assert_undone(self, live, states):
        """Whether the calls are taken back one by one, down to the index that was passed."""
        for before, steps in states[-2::-1]:
            self.assertIsNone(live.undo())
            self.assertEqual(live.present, before)
            self.assertEqual(live.log(), steps)
        self.assert_refuses(errors.Nothing, None, live, "undo", ())

    def test_undo_and_go_on(self):
        live = LiveIndex(SOME)
        self.assert_refuses(errors.Nothing, None, live, "undo", ())
        live.run("up", 2, 5)
        live.drop(1, 3)
        live.undo()
        live.run("down", 11, 4)
        self.assertEqual(live.log(), [("up", 2, 5), ("down", 11, 4)])
        self.assertEqual(live.present, run(run(SOME, "up", 2, 5), "down", 11, 4))
        live.undo()
        live.undo()
        self.assertEqual(live.present, SOME)
        self.assertEqual(live.log(), [])
        self.assert_refuses(errors.Nothing, None, live, "undo", ())
        live.drop(1, 6)
        self.assertEqual(live.present, new_index(RULE))
        self.assertEqual(live.all_pages(), 1)

    def test_two_hundred_calls(self):
        picks = EvenPicks(102)
        index = loaded(RULE, "up", MANY)
        live = LiveIndex(index)
        states = [(index, [])]
        for _ in range(200):
            self.at_once(call, live, some_step(picks, live.present.entries, MANY))
            states.append((live.present, live.log()))
        self.assertEqual(live.all_pages(), count(live.present))
        self.assertEqual(len(live.log()), 200)
        self.assert_undone(live, states)

    def test_great_indexes(self):
        picks = EvenPicks(103)
        for _ in range(60):
            numbers = great_rule(picks)
            index = PageIndex(Rule(*numbers), great_levels(picks, numbers))
            live = LiveIndex(index)
            expected = index
            for _ in range(4):
                step = some_step(picks, live.present.entries, MANY)
                expected = dropped(expected, *step[1:]) if step[0] == "drop" else run(expected, *step)
                self.assertTrue(self.at_once(live.preview, step) == count(expected))
                self.at_once(call, live, step)
                self.assertTrue(live.present == expected)
                self.assertTrue(live.all_pages() == count(expected))

    def test_what_was_passed_stays(self):
        live = LiveIndex(SOME)
        live.run("up", 2, 5)
        self.assertEqual(SOME.levels, [[(3, 2)], [(2, 1)]])
        log = live.log()
        log.append(("drop", 1, 1))
        log[0] = None
        self.assertEqual(live.log(), [("up", 2, 5)])
        live.present.levels[0].clear()
        self.assertEqual(live.present, run(SOME, "up", 2, 5))
        self.assertEqual(played(SOME, live.log()), live.present)

    def test_any_index(self):
        # What the package returned is passed on, however many tuples and levels it has.
        tall = run(PageIndex(RULE, full_path_levels(100)), "up", 1, 1)
        live = LiveIndex(tall)
        live.drop(1, 1)
        self.assertEqual([live.present.height, live.present], [101, dropped(tall, 1, 1)])
        live = LiveIndex(PageIndex(RULE, [[(3, 1), (3, 1)], [(2, 1)]]))
        self.assertEqual(live, LiveIndex(SOME))
        live.run("up", 2, 5)
        self.assertEqual(live.present, run(SOME, "up", 2, 5))


class PreviewTest(LiveChecked):
    def test_previews(self):
        picks = EvenPicks(104)
        for many in range(13):
            for kind in (LiveIndex, BudgetIndex):
                live = kind(SOME) if kind is LiveIndex else kind(SOME, 10 ** 40)
                present = SOME
                steps = []
                for _ in range(many):
                    steps.append(some_step(picks, present.entries, 30))
                    present = played(present, steps[-1:])
                self.assertEqual(live.preview(*steps), count(present))
                self.assertEqual([live.present, live.log()], [SOME, []])
        self.assertEqual(LiveIndex(SOME).preview(), 3)
        self.assertEqual(BudgetIndex(SOME, 3).preview(), 3)

    def test_steps_that_refuse(self):
        live = LiveIndex(SOME)
        good = [("up", 6, 1), ("drop", 7, 7), ("down", 0, 3)]
        wrong = [(("up", 10, 1), errors.InvalidGap), (("up", 9, 0), errors.InvalidNumber),
                 (("up", 10, 0), errors.InvalidGap), (("drop", 10, 10), errors.InvalidEntry),
                 (("drop", 0, 1), errors.InvalidEntry), (("drop", 2, 1), errors.InvalidEntry),
                 (("drop", 1, 10), errors.InvalidEntry), (("down", None, None), errors.InvalidGap),
                 (("down", 0, True), errors.InvalidNumber), (("drop", "1", 1), errors.InvalidEntry)]
        for step, error in wrong:
            self.assert_refuses(error, None, live, "preview", (*good, step))
            self.assert_refuses(error, None, live, "preview", (*good, step, ("up", -1, 0)))
            # The form of all steps comes first.
            self.assert_refuses(errors.InvalidOperation, None, live, "preview", (step, *good, None))
        # A drop of all entries leaves the front alone.
        self.assert_refuses(errors.InvalidGap, None, live, "preview", (("drop", 1, 6), ("up", 1, 1)))
        self.assertEqual(live.preview(("drop", 1, 6), ("up", 0, 4)), 3)

    def test_no_operations(self):
        words = [*NO_INTEGERS, 0, "Up", "UP", "Drop", "up ", "u", "run", "undo", b"up", ("up",), ["drop"], Same()]
        wrong = [*NO_INTEGERS, 0, "up", [], ["up", 0, 1], ("up",), ("up", 0), ("up", 0, 1, 1), ("drop", 1),
                 ("drop", 1, 1, 1), (("up", 0, 1),), [("up", 0, 1)], ["drop", 1, 1], "up 0 1", (0, "up", 1), ()]
        wrong += [(word, 1, 1) for word in words]
        for kind in (LiveIndex(SOME), BudgetIndex(SOME, 3)):
            for value in wrong:
                self.assert_refuses(errors.InvalidOperation, None, kind, "preview", (value,))
                self.assert_refuses(errors.InvalidOperation, None, kind, "preview", (("up", 0, 1), value))
                self.assert_refuses(errors.InvalidOperation, None, kind, "preview", (("up", 99, 1), value))
                self.assert_refuses(errors.InvalidOperation, None, kind, "preview", (value, ("up", 99, 1)))


class BudgetTest(LiveChecked):
    def test_constructor(self):
        for budget in (3, 4, MANY, 10 ** 99):
            live = BudgetIndex(SOME, budget)
            self.assertEqual([live.budget, live.all_pages(), live.present, live.log()], [budget, 3, SOME, []])
        for budget in (1, 2):
            self.assert_raises(errors.OverBudget, 3, BudgetIndex, (SOME, budget))
        self.assertEqual(BudgetIndex(new_index(RULE), 1).all_pages(), 1)
        great = loaded(RULE, "up", MANY)
        self.assert_raises(errors.OverBudget, count(great), BudgetIndex, (great, count(great) - 1))
        self.assertEqual(BudgetIndex(great, count(great)).all_pages(), count(great))

    def test_calls(self):
        picks = EvenPicks(105)
        for _ in range(150):
            numbers = picks.one((great_rule(picks), picks.one(all_rules(3, 6))))
            levels = some_levels(picks, numbers, picks.among(0, 8))
            index = PageIndex(Rule(*numbers), levels)
            steps = []
            present = index
            for _ in range(4):
                steps.append(some_step(picks, present.entries, picks.one((20, MANY))))
                present = played(present, steps[-1:])
            self.compare(index, steps)

    def compare(self, index, steps):
        """Plays the steps with budgets just below, at and above the pages that there are in between."""
        pages = [count(played(index, steps[:many])) for many in range(len(steps) + 1)]
        for budget in sorted({number + more for number in pages for more in (-1, 0, 1)}):
            if budget < pages[0]:
                if budget > 0:
                    self.assert_raises(errors.OverBudget, pages[0], BudgetIndex, (index, budget))
                continue
            over = [number for number in pages if number > budget]
            live = BudgetIndex(index, budget)
            if over:
                self.assert_refuses(errors.OverBudget, over[0], live, "preview", steps)
            else:
                self.assertEqual(live.preview(*steps), pages[-1])
            for at, step in enumerate(steps):
                if pages[at + 1] > budget:
                    method, arguments = ("drop", step[1:]) if step[0] == "drop" else ("run", step)
                    self.assert_refuses(errors.OverBudget, pages[at + 1], live, method, arguments)
                    break
                self.assertIsNone(call(live, step))
                self.assertEqual(live.all_pages(), pages[at + 1])
            self.assertEqual(live.present, played(index, live.log()))
            while live.log():
                self.assertIsNone(live.undo())
            self.assertEqual(live.present, index)

    def test_errors_ahead_of_the_budget(self):
        # Each of these calls would split leaves if it were valid.
        full = PageIndex(RULE, [[(3, 2)], [(2, 1)]])
        live = BudgetIndex(full, 3)
        self.assert_refuses(errors.OverBudget, 4, live, "run", ("up", 0, 1))
        self.assert_refuses(errors.InvalidKind, None, live, "run", ("Up", 0, 1))
        self.assert_refuses(errors.InvalidKind, None, live, "run", ("drop", 1, 1))
        self.assert_refuses(errors.InvalidGap, None, live, "run", ("up", 7, MANY))
        self.assert_refuses(errors.InvalidNumber, None, live, "run", ("up", 0, MANY + 1))
        self.assert_refuses(errors.InvalidEntry, None, live, "drop", (1, 7))
        self.assert_refuses(errors.OverBudget, 4, live, "preview", (("up", 0, 1), ("up", -1, 1)))
        self.assert_refuses(errors.InvalidGap, None, live, "preview", (("up", -1, 1), ("up", 0, 1)))
        self.assert_refuses(errors.InvalidOperation, None, live, "preview", (("up", 0, 1), None))
        self.assertEqual(live.preview(("drop", 1, 1), ("up", 0, 1)), 3)
        self.assert_refuses(errors.OverBudget, 4, live, "preview", (("drop", 1, 1), ("up", 0, 2), ("drop", 1, 7)))

    def test_a_budget_stays(self):
        live = BudgetIndex(SOME, 4)
        live.run("up", 0, 1)
        self.assert_refuses(errors.OverBudget, 7, live, "run", ("up", 6, 1))
        live.drop(1, 7)
        self.assertEqual([live.budget, live.all_pages(), len(live.log())], [4, 1, 2])
        live.undo()
        live.undo()
        self.assertEqual([live.budget, live.present, live.log()], [4, SOME, []])
        self.assert_refuses(errors.Nothing, None, live, "undo", ())

    def test_wrong_budgets(self):
        no_budget = [(value, errors.InvalidBudget) for value in [*NO_INTEGERS, 0, -1, -10 ** 999, "3", [3], (3,)]]
        self.assert_wrong(BudgetIndex, (SOME, no_index()), (3, no_budget))
        for budget in (1, 0, None):
            self.assert_raises(errors.InvalidIndex, None, BudgetIndex, (LiveIndex(SOME), budget))
        self.assert_raises(errors.InvalidBudget, None, BudgetIndex, (SOME, 0))


class EqualTest(unittest.TestCase):
    def test_live_indexes(self):
        one, other = LiveIndex(SOME), LiveIndex(PageIndex(RULE, [[(3, 1), (3, 1)], [(2, 1)]]))
        self.assertTrue(one == other)
        self.assertFalse(one != other)
        one.run("up", 2, 5)
        self.assertFalse(one == other)
        other.run("up", 2, 3)
        other.run("up", 5, 2)
        self.assertTrue(one == other)
        one.undo()
        self.assertTrue(one == LiveIndex(SOME))
        self.assertFalse(one == LiveIndex(PageIndex(Rule(4, 2, 3, 2), SOME.levels)))

    def test_budgets(self):
        live, three, four, again = LiveIndex(SOME), BudgetIndex(SOME, 3), BudgetIndex(SOME, 4), BudgetIndex(SOME, 3)
        self.assertTrue(three == again)
        self.assertFalse(three != again)
        for one, other in ((live, three), (three, live), (three, four), (four, three), (live, four)):
            self.assertFalse(one == other)
            self.assertTrue(one != other)
        four.run("up", 2, 1)
        self.assertFalse(four == BudgetIndex(SOME, 4))
        four.undo()
        self.assertTrue(four == BudgetIndex(SOME, 4))

    def test_any_value(self):
        for live in (LiveIndex(SOME), BudgetIndex(SOME, 3)):
            for value in (*[value for value in NO_INTEGERS if not isinstance(value, Same)], 3, SOME, RULE, LiveIndex,
                          [live], (live,)):
                self.assertFalse(live == value)
                self.assertFalse(value == live)
                self.assertTrue(live != value)
            self.assertTrue(live == live)


class WrongTest(LiveChecked):
    def test_constructor(self):
        self.assert_wrong(LiveIndex, (SOME, no_index()))
        self.assert_raises(errors.InvalidIndex, None, LiveIndex, (LiveIndex(SOME),))

    def test_calls(self):
        # The errors of run and dropped, each call on a live index of its own.
        def live_run(kind, gap, number):
            LiveIndex(SOME).run(kind, gap, number)

        def live_drop(first, last):
            LiveIndex(SOME).drop(first, last)

        self.assert_wrong(live_run, ("up", no_kind()), (6, no_gap(6)), (MANY, no_number()))
        self.assert_wrong(live_drop, (1, no_entry(1, 6)), (6, no_entry(1, 6)))
        self.assert_wrong(live_drop, (6, no_entry(1, 6)), (6, no_entry(6, 6)))

    def test_nothing_changes(self):
        for live in (LiveIndex(SOME), BudgetIndex(SOME, 99)):
            live.run("up", 2, 5)
            for value in numbers_beyond(0, 11):
                self.assert_refuses(errors.InvalidGap, None, live, "run", ("up", value, value))
            for value in numbers_beyond(1, 11):
                self.assert_refuses(errors.InvalidEntry, None, live, "drop", (value, value))
                self.assert_refuses(errors.InvalidEntry, None, live, "drop", (1, value))
            for value, error in no_kind():
                self.assert_refuses(error, None, live, "run", (value, -1, -1))


if __name__ == "__main__":
    unittest.main()
