import unittest

from checked import Checked, no_kind, numbers_beyond
from counting import NO_INTEGERS
from leafsplits.errors import InvalidKind, InvalidNumber, InvalidSeen
from leafsplits.fitting import fitting_rules
from leafsplits.loads import load_pages
from leafsplits.rules import Rule
from picking import EvenPicks, partings
from putting import Put

MANY = 10 ** 30


def leaves_put(most, kind, number):
    """How many leaves a load has behind each number of entries, put in one by one, for each m and a."""
    found = {}
    for leaf in range(3, most + 1):
        for stays in partings(leaf):
            model = Put((leaf, stays, 3, 2), [[(0, 1)]])
            place = None
            found[leaf, stays] = [1]
            for _ in range(number):
                entry, _ = model.insert(place)
                place = entry if kind == "up" else None
                found[leaf, stays].append(model.counts()[0])
    return found


def together(fitting):
    """Tuples (m, a), ascending, as tuples (m, least, greatest); no a between these is left out."""
    found = []
    for leaf in sorted({leaf for leaf, _ in fitting}):
        stays = [stays for other, stays in fitting if other == leaf]
        if stays != list(range(min(stays), max(stays) + 1)):
            raise AssertionError(stays)
        found.append((leaf, min(stays), max(stays)))
    return found


class ExampleTest(unittest.TestCase):
    def test_example(self):
        found = [fitting_rules("up", [(3, 1), (4, 2), (6, 3)], 9), fitting_rules("up", [(10, 2)], 9)]
        self.assertEqual(found, [[(3, 2, 2)], [(6, 4, 5), (7, 3, 6), (8, 3, 6), (9, 3, 7)]])


class SmallTest(Checked):
    def test_against_every_rule(self):
        picks = EvenPicks(81)
        for kind in ("up", "down"):
            counts = leaves_put(14, kind, 70)
            none = some = 0
            for _ in range(700):
                leaves = counts[picks.one(sorted(counts))]
                seen = []
                for _ in range(picks.one((1, 1, 2, 3, 5, 20))):
                    entries = picks.among(1, 70)
                    seen.append((entries, leaves[entries]))
                if picks.among(0, 3) == 0:
                    entries = picks.among(1, 70)
                    seen.append((entries, picks.among(1, 12)))
                    seen = seen[-20:]
                most = picks.among(3, 14)
                fitting = [numbers for numbers in sorted(counts) if numbers[0] <= most
                           and all(counts[numbers][entries] == many for entries, many in seen)]
                self.assertEqual(fitting_rules(kind, seen, most), together(fitting), (kind, seen, most))
                none += not fitting
                some += bool(fitting)
            self.assertGreater(min(none, some), 100)

    def test_every_single_sight(self):
        for kind in ("up", "down"):
            counts = leaves_put(9, kind, 30)
            for entries in range(1, 31):
                for many in range(1, 14):
                    fitting = [numbers for numbers in sorted(counts) if counts[numbers][entries] == many]
                    self.assertEqual(fitting_rules(kind, [(entries, many)], 9), together(fitting), (entries, many))

    def test_one_leaf(self):
        # All rules whose leaves hold so many entries.
        self.assertEqual(fitting_rules("up", [(1, 1)], 3), [(3, 2, 2)])
        self.assertEqual(fitting_rules("down", [(7, 1)], 9), [(7, 2, 6), (8, 3, 6), (9, 3, 7)])
        self.assertEqual(fitting_rules("down", [(10, 1)], 9), [])
        self.assertEqual(len(fitting_rules("up", [(1, 1)], 1000)), 998)
        self.assertEqual(fitting_rules("up", [(1000, 1)], 1000), [(1000, 251, 750)])
        self.assertEqual(fitting_rules("up", [(1001, 1)], 1000), [])
        self.assertEqual(fitting_rules("up", [(999, 1), (1001, 2)], 1000), [(999, 250, 750), (1000, 251, 750)])

    def test_no_rule(self):
        for seen in ([(4, 1), (4, 2)], [(3, 2)], [(1, 2)], [(10, 9)], [(5, 1), (4, 2)], [(10, MANY)], [(MANY, 2)],
                     [(8, 4), (9, 3)], [(MANY, 1)]):
            for kind in ("up", "down"):
                self.assertEqual(fitting_rules(kind, seen, 1000), [], seen)

    def test_kinds(self):
        # Up, of a leaf with one entry too many a stay behind the run, down b.
        self.assertEqual(fitting_rules("up", [(8, 2), (13, 3)], 7), [(5, 4, 4), (6, 4, 5), (7, 3, 5)])
        self.assertEqual(fitting_rules("down", [(8, 2), (13, 3)], 7), [(5, 2, 2), (6, 2, 3), (7, 3, 5)])
        for leaf in range(3, 40):
            rule_up = fitting_rules("up", [(leaf, 1), (leaf + 1, 2), (100, 9)], 39)
            rule_down = fitting_rules("down", [(leaf, 1), (leaf + 1, 2), (100, 9)], 39)
            self.assertEqual([(m, m + 1 - greatest, m + 1 - least) for m, least, greatest in rule_up], rule_down)


class GreatTest(Checked):
    def test_against_loads(self):
        picks = EvenPicks(82)
        rules = [(leaf, stays) for leaf in range(3, 24) for stays in partings(leaf)]
        made = {numbers: Rule(*numbers, 3, 2) for numbers in rules}
        for _ in range(60):
            kind = picks.one(("up", "down"))
            true = made[picks.one(rules)]
            entries = [picks.one((MANY, picks.great(1, MANY), picks.among(1, 300))) for _ in range(picks.among(1, 4))]
            seen = [(many, load_pages(true, kind, many, 0)) for many in entries]
            fitting = [numbers for numbers in rules
                       if all(load_pages(made[numbers], kind, many, 0) == leaves for many, leaves in seen)]
            self.assertEqual(fitting_rules(kind, seen, 23), together(fitting), (kind, seen))

    def test_most(self):
        picks = EvenPicks(83)
        for _ in range(30):
            leaf = picks.among(3, 1000)
            stays = picks.one(partings(leaf))
            kind = picks.one(("up", "down"))
            rule = Rule(leaf, stays, 3, 2)
            seen = [(many, load_pages(rule, kind, many, 0))
                    for many in [MANY, leaf, leaf + 1, *[picks.great(1, MANY) for _ in range(17)]]]
            self.assertEqual(self.at_once(fitting_rules, kind, seen, 1000), [(leaf, stays, stays)])
            self.assertEqual(fitting_rules(kind, seen, max(leaf - 1, 3)), [] if leaf > 3 else [(3, 2, 2)])
            for least, most in self.some_of(fitting_rules(kind, seen[:1], 1000)):
                self.assertTrue(least <= most)

    def some_of(self, fitting):
        return [(least, most) for _, least, most in fitting]

    def test_one_great_sight(self):
        # Only the parts tell how many leaves there are, the first leaf hardly does.
        found = self.at_once(fitting_rules, "up", [(MANY, MANY // 500 - 1)], 1000)
        for leaf, least, greatest in found:
            self.assertEqual((least, greatest), (500, 500))
            rule = Rule(leaf, 500, 3, 2)
            self.assertEqual(load_pages(rule, "up", MANY, 0), MANY // 500 - 1)
        expected = [leaf for leaf in range(3, 1001) if 500 in partings(leaf)
                    and load_pages(Rule(leaf, 500, 3, 2), "up", MANY, 0) == MANY // 500 - 1]
        self.assertEqual([leaf for leaf, _, _ in found], expected)

    def test_twenty_sights(self):
        seen = [(many, load_pages(Rule(500, 200, 3, 2), "down", many, 0)) for many in range(501, 30501, 1500)]
        self.assertEqual(len(seen), 20)
        before = list(seen)
        found = self.at_once(fitting_rules, "down", seen, 1000)
        self.assertEqual(seen, before)
        self.assertIn((500, 200, 200), [(leaf, max(least, 200), min(greatest, 200)) for leaf, least, greatest in found])


class WrongTest(Checked):
    def test_values(self):
        seen = [(4, 2)]
        no_seen = [(value, InvalidSeen) for value in [*NO_INTEGERS, tuple(seen), [], seen * 21, "up", 1]
                   if not (type(value) is list and 1 <= len(value) <= 20)]
        no_most = [(value, InvalidNumber) for value in numbers_beyond(3, 1000)]
        for most in (3, 1000):
            self.assert_wrong(fitting_rules, ("up", no_kind()), (seen, no_seen), (most, no_most))
        self.assert_wrong(fitting_rules, ("down", no_kind()), (seen * 20, no_seen), (1000, no_most))

    def test_no_sights(self):
        wrong = [*NO_INTEGERS, 4, "4 2", (4,), (4, 2, 1), [4, 2], ((4, 2),), [(4, 2)], (4, (2,)), ([4], 2), {4: 2}]
        wrong += [(value, 1) for value in numbers_beyond(1, MANY)]
        wrong += [(MANY, value) for value in numbers_beyond(1, MANY)]
        for value in wrong:
            self.assert_raises(InvalidSeen, 2, fitting_rules, ("up", [(1, 1), (MANY, MANY), value, None], 1000))
            self.assert_raises(InvalidSeen, 0, fitting_rules, ("down", [value, (0, 0)], 1001))
            self.assert_raises(InvalidKind, None, fitting_rules, ("drop", [value], 1001))
        self.assert_raises(InvalidSeen, 19, fitting_rules, ("up", [(1, 1)] * 19 + [(0, 1)], 3))

    def test_new_lists(self):
        found = fitting_rules("up", [(1, 1)], 3)
        found.clear()
        self.assertEqual(fitting_rules("up", [(1, 1)], 3), [(3, 2, 2)])


if __name__ == "__main__":
    unittest.main()
