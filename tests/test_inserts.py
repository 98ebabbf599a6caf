import unittest

from checked import Checked, no_index, no_number, numbers_beyond
from counting import Counted
from leafsplits.errors import InvalidLeaves
from leafsplits.indexes import PageIndex, new_index
from leafsplits.inserts import fewest_leaves, leaves_script, most_leaves, possible_from, sure_from
from leafsplits.loads import loaded
from leafsplits.rules import Rule
from leafsplits.runs import dropped, run
from picking import EvenPicks, all_rules, great_levels, great_rule, partings
from putting import Put

RULE = Rule(3, 2, 3, 2)
OTHER = PageIndex(RULE, [[(3, 1), (1, 1)], [(2, 1)]])
MANY = 10 ** 30
FAR = 10 ** 60
GREAT = Rule(MANY, MANY // 2, MANY, MANY // 2)


def leaf_rules(most):
    """The rules whose leaves hold up to so many entries, parted in each allowed way."""
    return [(leaf, stays, 4, 2) for leaf in range(3, most + 1) for stays in partings(leaf)]


def above(sizes, inner):
    """The levels of an index of leaves with these sizes."""
    levels = [sizes]
    while len(levels[-1]) > 1:
        many = len(levels[-1])
        levels.append([min(inner, many - at) for at in range(0, many, inner)])
    return Counted(levels).together()


def index_of(numbers, sizes):
    """The index of leaves with these sizes, also where PageIndex does not take so many tuples."""
    leaf, _, inner, _ = numbers
    if len(sizes) <= 12:
        return PageIndex(Rule(*numbers), above(sizes, inner))
    index = PageIndex(Rule(*numbers), above([leaf] * len(sizes), inner))
    entries = 0
    for size in sizes:
        if size < leaf:
            index = dropped(index, entries + size + 1, entries + leaf)
        entries += size
    return index


def all_sizes(leaf, leaves):
    """The sizes of so many leaves, in each way, from the small ones on."""
    found = [[]]
    for _ in range(leaves):
        found = [[*sizes, size] for sizes in found for size in range(sizes[-1] if sizes else 1, leaf + 1)]
    return found


def put_anywhere(numbers, sizes, number):
    """The numbers of leaves that each count of inserts can lead to, if all ways are tried."""
    leaf, stays = numbers[:2]
    states = {tuple(sorted(sizes))}
    found = [{len(sizes)}]
    for _ in range(number):
        further = set()
        for state in states:
            for at in range(len(state)):
                size = state[at] + 1
                parts = (size,) if size <= leaf else (stays, leaf + 1 - stays)
                further.add(tuple(sorted(state[:at] + state[at + 1:] + parts)))
        states = further
        found.append({len(state) for state in states})
    return found


class ExampleTest(unittest.TestCase):
    def test_example(self):
        found = [fewest_leaves(OTHER, 4), most_leaves(OTHER, 4), [sure_from(OTHER, leaves) for leaves in (2, 3, 4)],
                 [possible_from(OTHER, leaves) for leaves in (2, 3, 4)]]
        self.assertEqual(found, [3, 4, [0, 3, 6], [0, 1, 3]])


class ScriptChecked(Checked):
    def assert_script(self, index, number, leaves):
        """Whether a script leads to so many leaves; how many steps it has."""
        script = self.at_once(leaves_script, index, number, leaves)
        self.assertIs(type(script), list)
        self.assertLessEqual(len(script), 400)
        behind = index
        for step in script:
            self.assertEqual((type(step), len(step), step[0]), (tuple, 3, "up"))
            behind = run(behind, *step)
        self.assertTrue(behind.entries == index.entries + number, (index.levels, number, leaves))
        self.assertEqual(behind.pages(0), leaves, (index.levels, number))
        return len(script)


class SmallTest(ScriptChecked):
    def compare(self, numbers, sizes, number):
        """Compares all answers with what all ways of putting so many entries in lead to."""
        index = new_index(Rule(*numbers)) if sizes == [0] else index_of(numbers, sizes)
        found = put_anywhere(numbers, sizes, number)
        for done in range(1, number + 1):
            what = (numbers, sizes, done)
            least, most = fewest_leaves(index, done), most_leaves(index, done)
            self.assertEqual(set(range(least, most + 1)), found[done], what)
            for leaves in range(least, most + 1):
                self.assert_script(index, done, leaves)
            for leaves in {1, least - 1, most + 1, most + 2, FAR} - {0, *range(least, most + 1)}:
                self.assertIsNone(leaves_script(index, done, leaves), what)
        for leaves in range(1, max(found[number]) + 1):
            surely = [done for done in range(number + 1) if min(found[done]) >= leaves]
            possibly = [done for done in range(number + 1) if max(found[done]) >= leaves]
            self.assertEqual(possible_from(index, leaves), possibly[0], (numbers, sizes, leaves))
            if surely:
                self.assertEqual(sure_from(index, leaves), surely[0], (numbers, sizes, leaves))
            else:
                self.assertGreater(sure_from(index, leaves), number, (numbers, sizes, leaves))
        self.assertGreater(possible_from(index, max(found[number]) + 1), number)

    def test_one_leaf(self):
        for numbers in leaf_rules(7):
            for size in range(numbers[0] + 1):
                self.compare(numbers, [size], 13)

    def test_two_leaves(self):
        for numbers in leaf_rules(7):
            for sizes in all_sizes(numbers[0], 2):
                self.compare(numbers, sizes, 8)

    def test_three_and_four_leaves(self):
        for numbers in leaf_rules(5):
            for sizes in all_sizes(numbers[0], 3) + all_sizes(numbers[0], 4)[::3]:
                self.compare(numbers, sizes, 6)

    def test_sizes_in_any_sequence(self):
        picks = EvenPicks(51)
        for numbers in leaf_rules(9):
            self.compare(numbers, [picks.among(1, numbers[0]) for _ in range(picks.among(3, 9))], 4)

    def test_one_number_of_leaves(self):
        # One insert into leaves that are not full splits none of them, into full ones surely one.
        index = PageIndex(Rule(7, 4, 3, 2), [[(3, 1), (6, 2)], [(3, 1)]])
        self.assertEqual([fewest_leaves(index, 1), most_leaves(index, 1)], [3, 3])
        self.assertEqual(len(leaves_script(index, 1, 3)), 1)
        self.assertEqual([leaves_script(index, 1, leaves) for leaves in (1, 2, 4)], [None, None, None])
        full = PageIndex(Rule(7, 4, 3, 2), [[(7, 3)], [(3, 1)]])
        self.assertEqual([fewest_leaves(full, 1), most_leaves(full, 1)], [4, 4])
        self.assertEqual([sure_from(full, 4), possible_from(full, 4)], [1, 1])
        self.assertIsNone(leaves_script(full, 1, 3))

    def test_halves(self):
        # 4a and 4b just reach m + 1.
        for numbers in ((7, 2, 3, 2), (7, 6, 3, 2), (11, 3, 3, 2), (11, 9, 3, 2)):
            for sizes in ([1], [numbers[0]], [2, numbers[0] - 1]):
                self.compare(numbers, sizes, 10)


class FactTest(ScriptChecked):
    def test_against_pages(self):
        picks = EvenPicks(52)
        for numbers in all_rules(3, 5)[::3]:
            for _ in range(6):
                sizes = [picks.among(1, numbers[0]) for _ in range(picks.among(1, 12))]
                index = index_of(numbers, sizes)
                model = Put(numbers, index.levels)
                for done in range(1, 30):
                    model.insert(model.place(picks.among(0, len(model.entries))))
                    leaves = model.counts()[0]
                    self.assertTrue(fewest_leaves(index, done) <= leaves <= most_leaves(index, done))
                    self.assertTrue(possible_from(index, leaves) <= done < sure_from(index, leaves + 1))

    def test_told_apart(self):
        one = PageIndex(RULE, [[(2, 1), (2, 2), (3, 1), (3, 2)], [(3, 1), (3, 1)], [(2, 1)]])
        other = PageIndex(RULE, [[(2, 3), (3, 3)], [(3, 2)], [(2, 1)]])
        for number in range(1, 12):
            self.assertEqual(fewest_leaves(one, number), fewest_leaves(other, number))
            self.assertEqual(most_leaves(one, number), most_leaves(other, number))
            for leaves in range(5, 12):
                self.assertEqual(leaves_script(one, number, leaves), leaves_script(other, number, leaves))
                self.assertEqual(possible_from(one, leaves), possible_from(other, leaves))


class GreatTest(ScriptChecked):
    def assert_agree(self, index, number, leaves):
        """Whether the four functions tell the same."""
        least = self.at_once(fewest_leaves, index, number)
        most = self.at_once(most_leaves, index, number)
        self.assertTrue(index.pages(0) <= least <= most)
        for count, function in ((least, sure_from), (most, possible_from)):
            self.assertTrue(function(index, count) <= number < function(index, count + 1))
            first = self.at_once(function, index, leaves)
            self.assertEqual(first == 0, leaves <= index.pages(0))
            if 1 < first <= MANY:
                tell = fewest_leaves if function is sure_from else most_leaves
                self.assertTrue(tell(index, first) >= leaves > tell(index, first - 1))
        self.assertTrue(possible_from(index, leaves) <= sure_from(index, leaves))

    def test_great_indexes(self):
        picks = EvenPicks(53)
        for at in range(300):
            numbers = great_rule(picks)
            levels = [[(0, 1)]] if at % 9 == 0 else great_levels(picks, numbers)
            index = PageIndex(Rule(*numbers), levels)
            number = picks.one((1, MANY, picks.great(1, MANY)))
            there = index.pages(0)
            self.assert_agree(index, number, picks.one((1, there, there + 1, FAR, picks.great(1, FAR))))

    def test_loads_and_more(self):
        index = self.at_once(loaded, RULE, "up", MANY)
        # All leaves have 2 entries, so the first split takes 2, and each further one.
        self.assertEqual(most_leaves(index, MANY), MANY)
        self.assertEqual(most_leaves(index, 1), MANY // 2)
        self.assertEqual(fewest_leaves(index, MANY), (2 * MANY + 2) // 3)
        self.assertEqual(possible_from(index, FAR), 2 * (FAR - MANY // 2))
        self.assertEqual(sure_from(index, FAR), 3 * (FAR - 1) + 1 - MANY)
        self.assertEqual([possible_from(index, MANY // 2), sure_from(index, MANY // 2)], [0, 0])

    def test_sums_of_cheap_splits(self):
        # The leaves of 10, 9 and 8 entries take 1, 2 and 3 inserts; min(a, b) is 4.
        index = PageIndex(Rule(10, 7, MANY, MANY // 2), [[(8, MANY), (3, 7), (10, 5), (9, 6)], [(MANY, 1), (18, 1)],
                                                         [(2, 1)]])
        there = MANY + 18
        expected = [(1, 1), (5, 5), (6, 7), (11, 17), (12, 20), (MANY + 11, 17 + 3 * MANY),
                    (MANY + 12, 21 + 3 * MANY), (MANY + 111, 17 + 3 * MANY + 400)]
        for more, number in expected:
            self.assertEqual(possible_from(index, there + more), number)
        self.assertEqual([most_leaves(index, number) - there for number in (1, 4, 5, 6, 7, 19, 20)],
                         [1, 4, 5, 5, 6, 11, 12])

    def test_one_leaf_of_great_rules(self):
        for stays in (MANY // 4 + 1, MANY // 2, MANY - MANY // 4):
            rule = Rule(MANY, stays, 3, 2)
            steady = min(stays, MANY + 1 - stays)
            empty = new_index(rule)
            self.assertEqual([possible_from(empty, leaves) for leaves in (1, 2, 3, FAR)],
                             [0, MANY + 1, MANY + 1 + steady, MANY + 1 + (FAR - 2) * steady])
            self.assertEqual([sure_from(empty, leaves) for leaves in (1, 2, FAR)],
                             [0, MANY + 1, (FAR - 1) * MANY + 1])
            self.assertEqual([fewest_leaves(empty, MANY), most_leaves(empty, MANY)], [1, 1])
            self.assertEqual(leaves_script(empty, MANY, 1), [("up", 0, MANY)])
            self.assertIsNone(leaves_script(empty, MANY, 2))
            full = PageIndex(rule, [[(MANY, 1)]])
            for leaves in (2, 3):
                self.assert_script(full, MANY, leaves)
            self.assertEqual(most_leaves(full, MANY), 2 + (MANY - 1) // steady)

    def test_scripts_of_great_numbers(self):
        picks = EvenPicks(54)
        for _ in range(150):
            leaf = picks.one((MANY, picks.great(3, MANY), picks.great(3, 10 ** 20)))
            numbers = (leaf, picks.one((max(2, (leaf + 4) // 4), (leaf + 1) // 2)), 5, 2)
            if leaf - numbers[1] < 1:
                continue
            sizes = [picks.one((leaf, picks.great(1, leaf))) for _ in range(picks.among(1, 12))]
            index = index_of(numbers, sizes)
            number = picks.one((MANY, picks.great(1, MANY), picks.great(1, min(MANY, 3 * leaf))))
            least, most = fewest_leaves(index, number), most_leaves(index, number)
            for leaves in sorted({least, most, (least + most) // 2, least + 1, most - 1}):
                if least <= leaves <= min(most, 200):
                    self.assert_script(index, number, leaves)
            self.assertIsNone(leaves_script(index, number, most + 1))

    def test_near_400_steps(self):
        # 199 splits, and then 200 leaves that are filled to the last entry.
        for leaf, stays in ((7, 2), (7, 4), (7, 6), (MANY // 1000, MANY // 2000)):
            for leaves in (1, 2, 100):
                index = index_of((leaf, stays, 30, 9), [1] * leaves)
                number = 200 * leaf - leaves
                self.assertEqual(fewest_leaves(index, number), 200)
                self.assertGreater(self.assert_script(index, number, 200), 295)
        index = index_of((MANY, MANY // 2, 30, 9), [MANY] * 100)
        self.assertLessEqual(self.assert_script(index, MANY, 101), 3)

    def test_hundred_leaves(self):
        picks = EvenPicks(55)
        numbers = (9, 3, 4, 3)
        index = index_of(numbers, [picks.among(1, 9) for _ in range(100)])
        for number in (1, 7, 40, 300, 900):
            for leaves in range(fewest_leaves(index, number), min(most_leaves(index, number), 200) + 1, 9):
                self.assert_script(index, number, leaves)


class WrongTest(Checked):
    def test_numbers(self):
        for function in (fewest_leaves, most_leaves):
            for number in (1, MANY):
                self.assert_wrong(function, (OTHER, no_index()), (number, no_number()))

    def test_leaves(self):
        wrong = [(value, InvalidLeaves) for value in numbers_beyond(1, FAR)]
        for function in (sure_from, possible_from):
            for leaves in (1, FAR):
                self.assert_wrong(function, (OTHER, no_index()), (leaves, wrong))

    def test_scripts(self):
        wrong = [(value, InvalidLeaves) for value in numbers_beyond(1, FAR)]
        for number, leaves in ((1, 1), (4, 3), (4, FAR)):
            self.assert_wrong(leaves_script, (OTHER, no_index()), (number, no_number()), (leaves, wrong))

    def test_new_lists(self):
        script = leaves_script(OTHER, 4, 3)
        script.clear()
        self.assertEqual(sum(number for _, _, number in leaves_script(OTHER, 4, 3)), 4)
        self.assertEqual(OTHER.levels, [[(3, 1), (1, 1)], [(2, 1)]])


if __name__ == "__main__":
    unittest.main()
