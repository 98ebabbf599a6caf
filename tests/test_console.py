import unittest

from checked import Checked
from counting import NO_INTEGERS
from leafsplits import errors
from leafsplits.console import Console
from leafsplits.indexes import PageIndex, new_index
from leafsplits.inserts import fewest_leaves, most_leaves
from leafsplits.live import LiveIndex
from leafsplits.ranges import touched
from leafsplits.rules import Rule
from leafsplits.texts import read_index, read_rule, show_index
from picking import EvenPicks, all_rules, some_levels

RULE = Rule(3, 2, 3, 2)
SOME = PageIndex(RULE, [[(3, 2)], [(2, 1)]])
SHOWN = "3 2 3 2: 3x2 / 2"
MANY = 10 ** 30


def console_of(index):
    """A console with an index."""
    console = Console()
    if console.execute("index " + show_index(index)) != "ok":
        raise AssertionError(index.levels)
    return console


class ExampleTest(unittest.TestCase):
    def test_example(self):
        console = Console()
        commands = ["up 0 6", "show", "index 3 2 3 2: 3x2 / 2", "up 2 5", "pages 1", "path 9", "fewest 4", "undo",
                    "height"]
        self.assertEqual([console.execute(command) for command in commands],
                         ["ok", "3 2 3 2: 2x3 / 3", "ok", "ok", "2", "4 1 0", "5", "ok", "2"])


class CommandTest(Checked):
    def test_a_new_console(self):
        console = Console()
        self.assertEqual([console.execute(command) for command in ("show", "entries", "height", "pages 0")],
                         ["3 2 3 2: 0", "0", "1", "1"])
        self.refuses(errors.Nothing, None, console, "undo")

    def test_each_command(self):
        picks = EvenPicks(111)
        for _ in range(80):
            numbers = picks.one(all_rules(3, 6))
            index = PageIndex(Rule(*numbers), some_levels(picks, numbers, picks.among(0, 8)))
            if max(len(level) for level in index.levels) > 12:
                continue
            console, live = console_of(index), LiveIndex(index)
            for _ in range(8):
                self.compare(console, live)
                self.call(picks, console, live)
            self.compare(console, live)

    def call(self, picks, console, live):
        """Makes the same call on both."""
        entries = live.present.entries
        word = picks.one(("up", "down", "drop", "undo"))
        if word == "undo" and live.log():
            live.undo()
            self.assertEqual(console.execute("undo"), "ok")
        elif word == "drop" and entries > 0:
            first = picks.among(1, entries)
            last = picks.among(first, entries)
            live.drop(first, last)
            self.assertEqual(console.execute(f"drop {first} {last}"), "ok")
        else:
            kind = picks.one(("up", "down"))
            gap, number = picks.among(0, entries), picks.one((MANY, picks.among(1, 20)))
            live.run(kind, gap, number)
            self.assertEqual(console.execute(f"{kind} {gap} {number}"), "ok")

    def compare(self, console, live):
        """Compares the answers of a console with those of the functions and methods."""
        index = live.present
        expected = {"show": show_index(index), "entries": str(index.entries), "height": str(index.height)}
        for level in range(index.height):
            expected[f"pages {level}"] = str(index.pages(level))
        for number in (1, 7, MANY):
            expected[f"fewest {number}"] = str(fewest_leaves(index, number))
            expected[f"most {number}"] = str(most_leaves(index, number))
        for entry in sorted({1, index.entries // 2 + 1, index.entries} if index.entries else []):
            expected[f"path {entry}"] = " ".join(str(page) for page in index.path(entry))
            for level in (0, index.height - 1):
                expected[f"touched {level} {entry} {index.entries}"] = str(touched(index, level, entry, index.entries))
        for command, answer in expected.items():
            found = console.execute(command)
            self.assertEqual(found, answer, command)
            self.assertIs(type(found), str)

    def test_new_indexes(self):
        console = Console()
        for index in (SOME, new_index(Rule(7, 2, 5, 3)), PageIndex(RULE, [[(2, 1)]])):
            console.execute("up 0 9")
            self.assertEqual(console.execute("index " + show_index(index)), "ok")
            self.assertEqual(console.execute("show"), show_index(index))
            self.refuses(errors.Nothing, None, console, "undo")
        console.execute("up 0 9")
        self.assertEqual(console.execute("rule 7 2 5 3"), "ok")
        self.assertEqual(console.execute("show"), "7 2 5 3: 0")
        self.refuses(errors.Nothing, None, console, "undo")
        # The tuples may be any that tell the levels.
        console.execute("index 3 2 3 2: 3x1 3 / 2")
        self.assertEqual(console.execute("show"), SHOWN)

    def test_two_consoles(self):
        one, other = Console(), Console()
        one.execute("up 0 6")
        self.assertEqual([one.execute("entries"), other.execute("entries")], ["6", "0"])

    def test_great_numbers(self):
        console = Console()
        for command in (f"rule {MANY} {MANY // 2} {MANY} {MANY // 2}", f"up 0 {MANY}", f"down {MANY} {MANY}"):
            self.assertEqual(self.at_once(console.execute, command), "ok")
        self.assertEqual(self.at_once(console.execute, "entries"), str(2 * MANY))
        self.assertEqual(self.at_once(console.execute, f"path {2 * MANY}"), "2 0")
        self.assertEqual(self.at_once(console.execute, f"most {MANY}"), "5")
        self.assertEqual(self.at_once(console.execute, f"touched 0 1 {2 * MANY}"), "3")

    def test_two_hundred_calls(self):
        console = Console()
        for at in range(200):
            self.assertEqual(console.execute(f"{('up', 'down')[at % 2]} {at} 10"), "ok")
        for _ in range(200):
            self.assertEqual(console.execute("undo"), "ok")
        self.refuses(errors.Nothing, None, console, "undo")
        self.assertEqual(console.execute("show"), "3 2 3 2: 0")

    def refuses(self, error, field, console, command):
        """Whether a command raises just this error, and changes nothing."""
        before = console.execute("show")
        self.assert_raises(error, field, console.execute, (command,))
        self.assertEqual(console.execute("show"), before)


class WrongTest(CommandTest):
    def console(self):
        """A console with a call that can be taken back."""
        console = console_of(SOME)
        console.execute("up 2 5")
        return console

    def assert_refused(self, error, field, commands):
        """Whether each command raises just this error, and can be followed by undo as if it had not been there."""
        console = self.console()
        for command in commands:
            self.refuses(error, field, console, command)
        self.assertEqual(console.execute("undo"), "ok")
        self.assertEqual(console.execute("show"), SHOWN)
        self.refuses(errors.Nothing, None, console, "undo")

    def test_no_strings(self):
        self.assert_refused(errors.InvalidCommand, None, [*[value for value in NO_INTEGERS if type(value) is not str],
                                                          0, b"show", ["show"], ("show",), SOME, RULE, Console])

    def test_no_commands(self):
        words = ["", " ", "\n", "index", "rule", "Show", "SHOW", "shown", "sho", "exit", "help", "run up 0 1", "ok",
                 "Index " + SHOWN, "indexes " + SHOWN, "index\n" + SHOWN, "rules 3 2 3 2", "rule\t3 2 3 2", "0", "1 2"]
        words += ["show 1", "show ", " show", "show\n", "\nshow", "entries 0", "height 1", "undo 1", "undo ", "undo\n",
                  " undo", "  ", "show show", " index " + SHOWN, " rule 3 2 3 2"]
        words += ["up", "up 0", "up 0 1 1", "down 0", "drop 1", "drop 1 1 1", "pages", "pages 0 0", "path", "path 1 1",
                  "fewest", "fewest 1 1", "most", "most 1 1", "touched", "touched 0 1", "touched 0 1 1 1", "touched 0"]
        words += ["up  0 1", "up 0  1", " up 0 1", "up 0 1 ", "up 0 1\n", "up\n0 1", "up 0\n1", "up 0 1\nundo", "UP 0 1"]
        words += ["run up 1", "drop 1-1", "up 0,1", "up 0 one", "up zero 1", "pages x"]
        self.assert_refused(errors.InvalidCommand, None, words)

    def test_no_numbers(self):
        wrong = ["-0", "01", "00", "+1", "--1", "-01", "-", "1.0", "1e3", "0x1", "1_0", "1-", "x", "٣", "²", "9" * 101,
                 "-" + "9" * 101, "1\n", "\n1", "-x", "- 1", "", "'1'", "(1)", "True", "None", "9" * 5000]
        commands = []
        for value in wrong:
            commands += [f"up {value} 1", f"up 0 {value}", f"down {value} 1", f"drop 1 {value}", f"pages {value}",
                         f"path {value}", f"fewest {value}", f"most {value}", f"touched {value} 1 1",
                         f"touched 0 {value} 1", f"touched 0 1 {value}"]
        self.assert_refused(errors.InvalidCommand, None, commands)

    def test_errors_of_the_calls(self):
        far, low = "9" * 100, "-" + "9" * 100
        for kind in ("up", "down"):
            self.assert_refused(errors.InvalidGap, None, [f"{kind} {gap} 0" for gap in ("12", "-1", far, low)])
            self.assert_refused(errors.InvalidNumber, None,
                                [f"{kind} 11 {number}" for number in ("0", "-1", str(MANY + 1), far, low)])
        self.assert_refused(errors.InvalidEntry, None, ["drop 0 1", "drop 12 12", "drop -1 1", "drop 2 1", "drop 1 12",
                                                        f"drop 1 {far}", f"drop {low} 1", "path 0", "path 12",
                                                        "path -1", f"path {far}", "touched 0 0 1", "touched 0 2 1",
                                                        "touched 2 1 12", f"touched 1 {low} {far}"])
        self.assert_refused(errors.InvalidLevel, None, ["pages 3", "pages -1", f"pages {far}", "touched 3 0 0",
                                                        "touched -1 1 1", f"touched {low} 1 1"])
        self.assert_refused(errors.InvalidNumber, None, [f"{word} {number}" for word in ("fewest", "most")
                                                         for number in ("0", "-1", str(MANY + 1), far, low)])

    def test_errors_of_the_texts(self):
        for text, part in (("", 0), (" ", 0), ("\n", 0), ("3 2 3 2", 0), ("3 2 3 2:", 0), ("3 2 3 2: ", 1),
                           ("3 2 3 2: 3x2", 2), ("3 2 3 2: 3x2 / 2\n", 2), ("3 2 3 2: 3x2\n / 2", 1),
                           ("3 2 3 2: 3x2  / 2", 1), (" 3 2 3 2: 3", 0), ("3 2 3 2: 4", 2), (SHOWN + " ", 2)):
            self.assert_refused(errors.InvalidText, part, ["index " + text])
        for text, part in (("", 0), (" ", 0), ("\n", 0), ("3 2 3", 3), ("3 2 3 2\n", 3), ("3 2 3 2 ", 4),
                           (" 3 2 3 2", 0), ("3  2 3 2", 1), ("3 1 3 2", 4), ("3 2 3 2 2", 5), (SHOWN, 3)):
            self.assert_refused(errors.InvalidText, part, ["rule " + text])

    def test_nothing_to_take_back(self):
        console = Console()
        for command in ("rule 5 3 4 2", "index " + SHOWN):
            console.execute(command)
            self.refuses(errors.Nothing, None, console, "undo")

    def test_texts_may_hold_other_words(self):
        self.assertEqual(read_rule("3 2 3 2"), RULE)
        self.assertEqual(read_index(SHOWN), SOME)
        self.assert_refused(errors.InvalidText, 0, ["index show", "index undo\nshow", "rule undo", "rule  ", "index  x"])


if __name__ == "__main__":
    unittest.main()
