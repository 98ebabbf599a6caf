import unittest

from checked import Checked, no_index, no_rule
from counting import NO_INTEGERS
from leafsplits.errors import InvalidText
from leafsplits.indexes import PageIndex, new_index
from leafsplits.loads import loaded
from leafsplits.parting import unlike_page
from leafsplits.rules import Rule
from leafsplits.runs import dropped, run
from leafsplits.texts import read_index, read_rule, show_index, show_rule
from picking import EvenPicks, all_rules, full_path_levels, great_levels, great_rule, some_levels

RULE = Rule(3, 2, 3, 2)
SOME = PageIndex(RULE, [[(3, 2)], [(2, 1)]])
MANY = 10 ** 30
NO_NUMBERS = ("", "x", "-1", "+1", "01", "00", "1.0", "1e3", "0x3", " 1", "1 ", "\n", "1\n", "1_0", "1,", "٣", "²",
              "9" * 101, "1" + "0" * 100, "0" * 2, "three", "3/", ":", "'3'", "3 ", "9" * 5000)


class ExampleTest(unittest.TestCase):
    def test_example(self):
        one = run(SOME, "up", 2, 5)
        self.assertEqual([show_index(one), read_index("3 2 3 2: 3x2 / 2") == SOME],
                         ["3 2 3 2: 2x4 3 / 2 3 / 2", True])


class RuleTest(Checked):
    def test_shown_and_read(self):
        picks = EvenPicks(91)
        for numbers in [*all_rules(3, 7), *[great_rule(picks) for _ in range(200)], (MANY, MANY // 2, 3, 2)]:
            text = " ".join(str(number) for number in numbers)
            self.assertEqual(show_rule(Rule(*numbers)), text)
            self.assertEqual(read_rule(text), Rule(*numbers))
            self.assertIs(type(read_rule(text)), Rule)
            self.assertEqual(show_rule(read_rule(text)), text)

    def test_wrong_values(self):
        self.assert_wrong(show_rule, (RULE, no_rule()))
        for value in [*NO_INTEGERS, 3, (3, 2, 3, 2), [3, 2, 3, 2], b"3 2 3 2", RULE]:
            if type(value) is not str:
                self.assert_raises(InvalidText, None, read_rule, (value,))

    def test_the_first_wrong_part_is_told(self):
        for value in NO_NUMBERS:
            if value in (" 1", "1 ", "3 "):
                continue
            for at in range(6):
                parts = ["3", "2", "3", "2", "9", "9"]
                parts[at] = value
                self.assert_raises(InvalidText, at, read_rule, (" ".join(parts),))
                self.assert_raises(InvalidText, at, read_rule, (" ".join(parts[:at + 1]),))
                self.assert_raises(InvalidText, at, read_rule, (" ".join([*parts[:at + 1], "", "x"]),))

    def test_spaces(self):
        for text, part in (("", 0), (" ", 0), ("3  2 3 2", 1), (" 3 2 3 2", 0), ("3 2 3 2 ", 4), ("3 2 3  2", 3),
                           ("3 2 3 2  ", 4), ("3\n2 3 2", 0), ("3 2 3 2\n", 3), ("\n", 0), ("3,2,3,2", 0)):
            self.assert_raises(InvalidText, part, read_rule, (text,))

    def test_no_such_rule(self):
        for text in ("3", "3 2", "3 2 3", "3 2 3 2 2", "0", "0 0 0 0", "2 2 3 2", "3 1 3 2", "3 3 3 2", "3 2 2 2",
                     "3 2 3 3", f"{MANY + 1} {MANY // 2} 3 2", "8 2 3 2", "3 2 8 7", "9" * 100, "9 9 9 9 9 9",
                     " ".join(["9" * 100] * 4), " ".join(["1"] * 400)):
            self.assert_raises(InvalidText, len(text.split()), read_rule, (text,))


class IndexTest(Checked):
    def assert_text(self, index):
        """Whether the text of an index is the one that its levels tell, and is read back within the bounds."""
        levels = [" ".join([f"{size}x{times}" if times > 1 else f"{size}" for size, times in level])
                  for level in index.levels]
        text = f"{show_rule(index.rule)}: {' / '.join(levels)}"
        self.assertEqual(self.at_once(show_index, index), text)
        if (max(len(level) for level in index.levels) <= 12 and index.height <= 100
                and all(times <= MANY for level in index.levels for _, times in level)):
            again = self.at_once(read_index, text)
            self.assertTrue(again == index, text)
            self.assertIs(type(again), PageIndex)
            self.assertEqual(show_index(again), text)
        else:
            self.assert_raises(InvalidText, index.height + 1, read_index, (text,))

    def test_shown_and_read(self):
        picks = EvenPicks(92)
        for numbers in all_rules(3, 7):
            levels = some_levels(picks, numbers, picks.among(0, 10))
            self.assert_text(PageIndex(Rule(*numbers), levels))
        for _ in range(200):
            numbers = great_rule(picks)
            index = PageIndex(Rule(*numbers), great_levels(picks, numbers))
            self.assert_text(index)
            gap = picks.great(0, index.entries)
            self.assert_text(run(index, picks.one(("up", "down")), gap, picks.great(1, MANY)))
            first = picks.great(1, index.entries)
            self.assert_text(dropped(index, first, picks.great(first, index.entries)))

    def test_edges(self):
        self.assertEqual(show_index(new_index(RULE)), "3 2 3 2: 0")
        self.assertEqual(read_index("3 2 3 2: 0"), new_index(RULE))
        self.assertEqual(read_index("3 2 3 2: 0x1"), new_index(RULE))
        self.assertEqual(show_index(PageIndex(RULE, [[(1, 1)]])), "3 2 3 2: 1")
        self.assert_text(PageIndex(RULE, full_path_levels(100)))
        self.assert_text(loaded(RULE, "up", MANY))
        self.assert_text(run(PageIndex(RULE, full_path_levels(100)), "up", 1, 1))

    def test_bounds(self):
        # Twelve tuples are read, thirteen are not, though PageIndex would put them together.
        for many in (11, 12, 13, 14):
            levels = f"{' '.join(['2'] * many)} / {' '.join(['1'] * (many - 1))} 1x1 / {many}"
            text = f"3 2 {MANY} {MANY // 2}: {levels.replace('1x1', '1') if many < 13 else levels}"
            if many <= 12:
                self.assertEqual(read_index(text).levels, [[(2, many)], [(1, many)], [(many, 1)]])
            else:
                self.assert_raises(InvalidText, 4, read_index, (text,))
        for height in (99, 100, 101):
            narrow = "3 2 3 2: 3x2 / " + "1x2 / " * (height - 2) + "2"
            if height <= 100:
                self.assertEqual(read_index(narrow).height, height)
            else:
                self.assert_raises(InvalidText, 102, read_index, (narrow,))
        # Times up to 10 ** 30 are read, also side by side; what they make together is not.
        great = f"{MANY} {MANY // 2} {MANY} {MANY // 2}: "
        index = read_index(great + f"7x{MANY} 7x{MANY} / {MANY}x2 / 2")
        self.assertEqual(index.levels, [[(7, 2 * MANY)], [(MANY, 2)], [(2, 1)]])
        self.assertEqual(show_index(index), great + f"7x{2 * MANY} / {MANY}x2 / 2")
        self.assert_raises(InvalidText, 4, read_index, (show_index(index),))

    def test_told_otherwise(self):
        for text in ("3 2 3 2: 3 3 / 2", "3 2 3 2: 3x1 3 / 2x1", "3 2 3 2: 3x2 / 2x1", "3 2 3 2: 3x1 3x1 / 2"):
            self.assertEqual(read_index(text), SOME)
            self.assertEqual(show_index(read_index(text)), "3 2 3 2: 3x2 / 2")
            self.assertIsNone(unlike_page(read_index(text), SOME))

    def test_wrong_values(self):
        self.assert_wrong(show_index, (SOME, no_index()))
        for value in [*NO_INTEGERS, 3, [[(3, 2)], [(2, 1)]], b"3 2 3 2: 3", SOME, ("3 2 3 2: 3",), ["3 2 3 2: 3"]]:
            if type(value) is not str:
                self.assert_raises(InvalidText, None, read_index, (value,))

    def test_the_rule_is_part_0(self):
        rules = ["", " ", "3", "3 2 3", "3 2 3 2 2", "3  2 3 2", " 3 2 3 2", "3 2 3 2 ", "3 1 3 2", "2 2 3 2",
                 "x", "3 2 3 2:", "3 2 3 02", f"{MANY + 1} 2 3 2", "3 2 3 2 /", "3 2 3 2\n", ":"]
        for rule in rules:
            for levels in ("3x2 / 2", "", "x", " / "):
                self.assert_raises(InvalidText, 0, read_index, (f"{rule}: {levels}",))
        for text in ("", "3 2 3 2", "3 2 3 2:", "3 2 3 2:3", "3 2 3 2 : 3", "3 2 3 2:\n3", " : ", "3 2 3 2 3x2 / 2",
                     "3 2 3 2/ 3", ":", ": ", "3x2 / 2"):
            self.assert_raises(InvalidText, 0, read_index, (text,))

    def test_the_first_wrong_part_is_told(self):
        # A size of 0 has the form, times or not.
        wrong = [*[value for value in NO_NUMBERS if value != "0x3"], "x2", "3x", "3xx2", "3x2x1", "3X2", "3 x2", "3x 2", "3x-2", "-3x2", "03x2", "3x02",
                 "3x" + "9" * 101, "3*2", "(3, 2)", "3x2,", "3  3", "3/2", "3 / ", "3: 2", "3x2\n", "3x2 ", " 3x2"]
        for value in wrong:
            for at in range(3):
                levels = ["3x2", "2", "9"]
                levels[at] = value
                # A part that ends in a slash leaves an empty one behind it.
                part = at + 2 if value == "3 / " else at + 1
                for end in range(at + 1, 4):
                    self.assert_raises(InvalidText, part, read_index, ("3 2 3 2: " + " / ".join(levels[:end]),))

    def test_separators(self):
        for levels, part in (("", 1), (" ", 1), (" / ", 1), ("3x2 / ", 2), ("3x2 /", 1), ("3x2/2", 1), ("3x2  / 2", 1),
                             ("3x2 /  2", 2), (" 3x2 / 2", 1), ("3x2 / 2 ", 2), ("3x2 / / 2", 2), ("3x2 /  / 2", 2),
                             ("3x2 : 2", 1), ("3x2: 2", 1), ("3x2 / 2: 2", 2), ("3 2 3 2: 3", 1), ("3x2\n/ 2", 1)):
            self.assert_raises(InvalidText, part, read_index, ("3 2 3 2: " + levels,))

    def test_no_such_index(self):
        for levels in ("4", "3x2", "3x2 / 3", "3x2 / 1x2", "3x2 / 2 / 1", "0 / 1", "0x2", "3x0", "0 0", "3 0 / 2",
                       "3x2 / 0x2", f"{MANY}x{MANY}", "9" * 100, f"3x{'9' * 100} / 2", "3x2 / 2 / 1 / 1", "1x4 / 4",
                       " ".join(["1"] * 13), " / ".join(["1"] * 101)):
            parts = levels.count(" / ") + 2
            self.assert_raises(InvalidText, parts, read_index, ("3 2 3 2: " + levels,))


if __name__ == "__main__":
    unittest.main()
