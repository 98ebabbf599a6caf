"""How many lines, calls and returns the answers take: they are counted, as a clock tells something else each time."""

import unittest

from checked import Checked
from leafsplits.indexes import PageIndex, new_index
from leafsplits.loads import first_height, first_more, load_height, load_pages, loaded
from leafsplits.moments import split_levels, split_moment, splits
from leafsplits.orders import least_order
from leafsplits.rules import Rule
from leafsplits.runs import dropped, run

MANY = 10 ** 30
RULE = Rule(3, 2, 3, 2)
GREAT = Rule(MANY, MANY // 2, MANY, MANY // 2)
SOME = PageIndex(RULE, [[(3, 2)], [(2, 1)]])
BIG = loaded(RULE, "up", MANY)


class SpeedTest(Checked):
    def test_closed_answers(self):
        # No level is gone through.
        for kind in ("up", "down"):
            for height in (1, 2, 100, 400):
                self.within(80, first_height, RULE, kind, height)
                self.within(80, first_height, GREAT, kind, height)
            for level in (0, 1, 5, 200):
                self.within(270, first_more, RULE, Rule(4, 2, 3, 2), kind, level)
                self.within(270, first_more, GREAT, RULE, kind, level)

    def test_levels_up_to_the_asked_one(self):
        for number in (50, MANY):
            for level in (0, 1, 2, 5):
                self.within(80 + 6 * level, load_pages, RULE, "up", number, level)
                self.within(150 + 35 * level, splits, BIG, "up", MANY // 10, number, level)
        self.within(80 + 6 * 100, load_pages, RULE, "up", MANY, 98)
        # Nor are levels that a load does not have.
        self.within(80 + 6 * 100, load_pages, RULE, "up", MANY, 200)
        self.within(80 + 6 * 6, load_pages, RULE, "up", 50, 200)

    def test_levels_that_are_not_there(self):
        for kind in ("up", "down"):
            self.within(280, split_moment, SOME, kind, 2, 200, MANY)
            self.within(280, split_moment, new_index(GREAT), kind, 0, 200, MANY)
            self.within(150 + 12 * 100, splits, SOME, kind, 2, MANY, 200)
            self.within(250, split_levels, SOME, kind, 2, 1)

    def test_all_levels(self):
        self.assertEqual(BIG.height, 99)
        for kind in ("up", "down"):
            self.within(25 * 100, loaded, RULE, kind, MANY)
            self.within(80 + 6 * 100, load_height, RULE, kind, MANY)
            self.within(85 * 100, run, BIG, kind, MANY // 10, MANY)
            self.within(38 * 100, splits, BIG, kind, MANY // 10, MANY, 98)
        self.within(75 * 100, dropped, BIG, MANY // 100, MANY // 10)

    def test_small_indexes(self):
        for kind in ("up", "down"):
            self.within(400, run, SOME, kind, 2, 5)
        self.within(170, dropped, SOME, 2, 4)

    def test_orders(self):
        # At most 205 runs up to the asked level, and 120 that are only counted.
        runs = [("up", 0, MANY), ("down", MANY // 2, MANY), ("up", MANY // 3, 7), ("up", MANY, MANY), ("down", 5, 1)]
        self.within(325 * 150, least_order, BIG, runs, 0)
        self.within(325 * 250, least_order, BIG, runs, 1)


if __name__ == "__main__":
    unittest.main()
