import unittest

from checked import Checked, no_kind, no_level, no_number, no_rule, numbers_beyond, told
from leafsplits.errors import InvalidHeight
from leafsplits.indexes import PageIndex, new_index
from leafsplits.loads import first_height, first_more, load_height, load_pages, loaded
from leafsplits.moments import split_moment, splits
from leafsplits.rules import Rule
from leafsplits.runs import run
from picking import Picks, all_rules, great_rule
from putting import Put

RULE = Rule(3, 2, 3, 2)
MANY = 10 ** 30
GREAT_RULES = ((MANY, MANY // 2, MANY, MANY // 2), (3, 2, MANY, 3 * MANY // 4), (MANY, MANY // 4 + 1, 3, 2),
               (MANY - 1, MANY // 4, MANY - 1, 3 * MANY // 4), (7, 2, 7, 6), (7, 6, 7, 2))


def steps_of(numbers, kind, level):
    """The first split of a level in a load, and how far apart the splits are, worked out level by level."""
    leaf, leaf_stays, inner, inner_stays = numbers
    first = leaf + 1
    apart = leaf_stays if kind == "up" else leaf + 1 - leaf_stays
    for _ in range(level):
        # The first page of the level has one child, and f more split it.
        first += (inner - 1) * apart
        apart *= inner_stays if kind == "up" else inner + 1 - inner_stays
    return first, apart


def pages_of(numbers, kind, number, level):
    """How many pages a level has behind a load of any number of entries."""
    if level > 0 and number < steps_of(numbers, kind, level - 1)[0]:
        return 0
    first, apart = steps_of(numbers, kind, level)
    return 1 if number < first else 2 + (number - first) // apart


class ExampleTest(unittest.TestCase):
    def test_loads(self):
        self.assertEqual(loaded(RULE, "up", 16).levels, [[(2, 8)], [(2, 4)], [(2, 2)], [(2, 1)]])
        self.assertEqual([load_pages(RULE, "up", 16, 1), load_height(RULE, "up", 15), first_height(RULE, "up", 4)],
                         [4, 3, 16])

    def test_first_more(self):
        self.assertEqual(first_more(RULE, Rule(4, 3, 3, 2), "up", 0), 4)
        self.assertIsNone(first_more(Rule(4, 2, 3, 2), Rule(3, 2, 3, 2), "up", 0))


class LoadTest(Checked):
    def assert_first_more(self, one, other, kind, level):
        """Whether an answer of first_more fits the numbers of pages just there and ahead of it."""
        found = first_more(Rule(*one), Rule(*other), kind, level)
        first, apart = steps_of(one, kind, level)
        if found is None:
            # The second rule's pages come no later, and its splits no further apart.
            self.assertTrue(steps_of(other, kind, level)[0] <= first, (one, other, kind, level))
            self.assertTrue(steps_of(other, kind, level)[1] <= apart, (one, other, kind, level))
            self.assertTrue(level == 0 or steps_of(other, kind, level - 1)[0] <= steps_of(one, kind, level - 1)[0])
            return
        mine = pages_of(one, kind, found, level)
        self.assertTrue(mine > pages_of(other, kind, found, level), (one, other, kind, level))
        # It is a split of the first rule at which it takes the lead; one
        # split earlier it had not taken it.
        self.assertTrue(pages_of(one, kind, found - 1, level) == mine - 1, (one, other, kind, level))
        for earlier in (found - 1, found - apart, found - 2 * apart, first, first + apart):
            if 0 <= earlier < found:
                self.assertTrue(pages_of(one, kind, earlier, level) <= pages_of(other, kind, earlier, level),
                                (one, other, kind, level, earlier))


class SmallTest(LoadTest):
    def test_all_small_rules(self):
        for numbers in all_rules(3, 7):
            rule = Rule(*numbers)
            for kind in ("up", "down"):
                model = Put(numbers, [[(0, 1)]])
                place = None
                for number in range(1, 61):
                    entry, _ = model.insert(place)
                    place = entry if kind == "up" else None
                    if number % 4 == 0 or number < 10:
                        self.compare(rule, kind, number, model)

    def compare(self, rule, kind, number, model):
        counts = model.counts()
        self.assertEqual(load_height(rule, kind, number), len(counts))
        self.assertEqual([load_pages(rule, kind, number, level) for level in range(len(counts))], counts)
        self.assertEqual([load_pages(rule, kind, number, level) for level in (len(counts), 200)], [0, 0])
        self.assertEqual(loaded(rule, kind, number).levels, told(model))

    def test_heights(self):
        for numbers in ((3, 2, 3, 2), (7, 2, 3, 2), (7, 6, 3, 2), (4, 3, 4, 2), (5, 2, 4, 3), (6, 5, 5, 2)):
            for kind in ("up", "down"):
                model = Put(numbers, [[(0, 1)]])
                place = None
                found = {1: 0}
                for number in range(1, 500):
                    entry, _ = model.insert(place)
                    place = entry if kind == "up" else None
                    found.setdefault(len(model.counts()), number)
                self.assertGreater(len(found), 3)
                for height, number in found.items():
                    self.assertEqual(first_height(Rule(*numbers), kind, height), number, (numbers, kind, height))
                self.assertGreaterEqual(first_height(Rule(*numbers), kind, max(found) + 1), 500)

    def test_first_more(self):
        rules = all_rules(3, 4) + [(5, 2, 6, 5), (5, 4, 6, 2), (7, 2, 7, 2), (7, 6, 7, 6), (7, 4, 3, 2), (6, 3, 5, 4)]
        for kind in ("up", "down"):
            counts = {}
            for numbers in rules:
                model = Put(numbers, [[(0, 1)]])
                place = None
                counts[numbers] = [[1, 0, 0, 0]]
                for _ in range(150):
                    entry, _ = model.insert(place)
                    place = entry if kind == "up" else None
                    counts[numbers].append((model.counts() + [0, 0, 0])[:4])
            for one in rules:
                for other in rules:
                    self.compare_pair(one, other, kind, (counts[one], counts[other]))

    def compare_pair(self, one, other, kind, counts):
        for level in range(4):
            pairs = enumerate(zip(*counts))
            expected = next((at for at, (mine, its) in pairs if mine[level] > its[level]), None)
            found = first_more(Rule(*one), Rule(*other), kind, level)
            if expected is not None or found is not None and found <= 150:
                self.assertEqual(found, expected, (one, other, kind, level))
            self.assert_first_more(one, other, kind, level)


class GreatTest(LoadTest):
    def test_loads(self):
        picks = Picks(21)
        for numbers in [*GREAT_RULES, (3, 2, 3, 2), *[great_rule(picks) for _ in range(60)]]:
            rule = Rule(*numbers)
            for kind in ("up", "down"):
                for number in (1, 2, MANY, MANY - 1, picks.great(1, MANY)):
                    index = self.at_once(loaded, rule, kind, number)
                    self.assert_sound(index, number)
                    self.assertEqual(index, run(new_index(rule), kind, 0, number))
                    self.assertEqual(self.at_once(load_height, rule, kind, number), index.height)
                    for level in (0, 1, index.height - 1, index.height, index.height + 1, 200):
                        pages = pages_of(numbers, kind, number, level)
                        self.assertEqual(self.at_once(load_pages, rule, kind, number, level), pages)
                        self.assertEqual(index.pages(level) if level < index.height else 0, pages)

    def test_heights(self):
        picks = Picks(22)
        for numbers in [*GREAT_RULES, (3, 2, 3, 2), *[great_rule(picks) for _ in range(20)]]:
            rule = Rule(*numbers)
            for kind in ("up", "down"):
                self.assertEqual(first_height(rule, kind, 1), 0)
                for height in (2, 3, 10, 50, 201, 202, 399, 400):
                    first = self.at_once(first_height, rule, kind, height)
                    self.assertTrue(first == steps_of(numbers, kind, height - 2)[0], (numbers, kind, height))
                    if first <= MANY:
                        self.assertEqual(load_height(rule, kind, first), height)
                        self.assertEqual(load_height(rule, kind, first - 1), height - 1)
                    elif height <= 202:
                        self.assertTrue(split_moment(new_index(rule), kind, 0, height - 2, 1) == first)
        self.assertEqual(first_height(RULE, "down", 400), 2 ** 400)
        self.assertEqual(load_height(RULE, "up", 2 ** 99), 99)

    def test_splits(self):
        for numbers in GREAT_RULES:
            rule = Rule(*numbers)
            for kind in ("up", "down"):
                pages = load_pages(rule, kind, MANY, 0)
                self.assertEqual(splits(new_index(rule), kind, 0, MANY, 0), pages - 1)

    def test_first_more_is_none(self):
        for numbers in ((3, 2, 3, 2), *GREAT_RULES):
            for level in (0, 1, 200):
                for kind in ("up", "down"):
                    self.assertIsNone(self.at_once(first_more, Rule(*numbers), Rule(*numbers), kind, level))
        for level in (0, 1, 2, 100):
            self.assertIsNone(first_more(Rule(4, 3, 4, 3), RULE, "up", level))
        # Down, both levels of the two rules are split equally far apart.
        self.assertIsNone(first_more(Rule(4, 3, 3, 2), RULE, "down", 0))
        self.assertEqual(first_more(RULE, Rule(4, 3, 3, 2), "down", 0), 4)

    def test_first_more_is_far_off(self):
        # The first rule begins later and gains one entry at each split.
        one, other = (MANY, MANY // 2, 3, 2), (MANY - 1, MANY // 2 + 1, 3, 2)
        first = MANY + 1 + 2 * (MANY // 2)
        self.assertEqual(self.at_once(first_more, Rule(*one), Rule(*other), "up", 0), first)
        one, other = (MANY, MANY // 4 + 1, 3, 2), (3 * MANY // 4 - 1, MANY // 4 + 2, 3, 2)
        first = MANY + 1 + (MANY // 4 + 2) * (MANY // 4 + 1)
        self.assertEqual(self.at_once(first_more, Rule(*one), Rule(*other), "up", 0), first)
        self.assertGreater(first, 10 ** 58)
        self.assert_first_more(one, other, "up", 0)

    def test_first_more_of_great_rules(self):
        picks = Picks(23)
        found = []
        for at in range(160):
            one = great_rule(picks)
            other = great_rule(picks)
            if at % 2:
                # Rules that are nearly the same are ahead of one another only far off.
                one = near(picks, other)
            for level in (0, 1, picks.among(0, 200)):
                for kind in ("up", "down"):
                    self.assert_first_more(one, other, kind, level)
                    found.append(self.at_once(first_more, Rule(*one), Rule(*other), kind, level))
        self.assertIn(None, found)
        self.assertTrue(any(number and number > 10 ** 60 for number in found))

    def test_first_page_of_a_level(self):
        # The level comes up earlier with the first rule, though it is not split earlier.
        one, other = (3, 2, 50, 25), (4, 2, 3, 2)
        for kind in ("up", "down"):
            self.assertEqual(first_more(Rule(*one), Rule(*other), kind, 1), 4)
            self.assertEqual(first_more(Rule(*other), Rule(*one), kind, 1), steps_of(other, kind, 1)[0])


def near(picks, numbers):
    """The numbers of a rule with nearly these numbers."""
    while True:
        found = tuple(number + picks.among(-2, 2) for number in numbers)
        leaf, leaf_stays, inner, inner_stays = found
        if all(3 <= held <= MANY and stays >= 2 and held + 1 - stays >= 2 and 4 * stays >= held + 1
               and 4 * (held + 1 - stays) >= held + 1 for held, stays in ((leaf, leaf_stays), (inner, inner_stays))):
            return found


class WrongTest(Checked):
    def test_loads(self):
        for number in (1, MANY):
            self.assert_wrong(loaded, (RULE, no_rule()), ("up", no_kind()), (number, no_number()))
            self.assert_wrong(load_height, (RULE, no_rule()), ("up", no_kind()), (number, no_number()))
            self.assert_wrong(load_pages, (RULE, no_rule()), ("down", no_kind()), (number, no_number()),
                              (200, no_level()))

    def test_first_height(self):
        for height in (1, 400):
            wrong = [(value, InvalidHeight) for value in numbers_beyond(1, 400)]
            self.assert_wrong(first_height, (RULE, no_rule()), ("up", no_kind()), (height, wrong))

    def test_first_more(self):
        for level in (0, 200):
            self.assert_wrong(first_more, (RULE, no_rule()), (Rule(4, 2, 3, 2), no_rule()), ("down", no_kind()),
                              (level, no_level()))

    def test_an_index_is_no_rule(self):
        for function in (loaded, load_height, first_height):
            self.assert_raises(no_rule()[0][1], None, function, (PageIndex(RULE, [[(3, 1)]]), "up", 1))


if __name__ == "__main__":
    unittest.main()
