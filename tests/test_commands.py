"""Points 58 and 59, and the functions of cushioned.commands."""

import unittest

from cushioned.commands import is_command, split_words

# A command of each kind, and what each word behind the first one is.
COMMANDS = [
    ("game g", "n"), ("put g red 1 20 -1 0 7", "nn##ss#"), ("take g red", "nn"), ("drop g", "n"),
    ("where g 12", "n#"), ("meet g red b2 0", "nnn#"), ("first g", "n"), ("falls g", "n"),
    ("print g", "n"), ("undo", ""), ("redo", ""), ("games", ""),
]
NAMES = ["a", "z", "a0", "z9", "abcdefghijkl", "undo", "game", "end", "a1b2c3"]
NO_NAMES = [
    "", "1a", "0", "A", "Red", "reD", "a_b", "a-b", "_a", "abcdefghijklm", "a\t", "\ta", "a\r", "a.",
    "\u00e4", "a\u0661", "-1",
]
NUMBERS = ["0", "1", "9", "10", "1000", "1" * 31, "9" * 31, "1" + "0" * 30]
NO_NUMBERS = [
    "", "00", "01", "007", "0" * 31, "1" * 32, "0" * 32, "+1", "-1", "-0", "1.0", "1_0", "1,0", "x",
    "1x", "x1", "0x1", "1e3", "\u0661", "1\u0661", "\u00b2", "1\r", "\t1", "one",
]
STEPS = ["-1", "0", "1"]
NO_STEPS = [
    "", "2", "-2", "+1", "+0", "-0", "00", "01", "-01", "1-", "--1", "10", "x", "-", "\u22121", "1\r",
]
RIGHT = {"n": NAMES, "#": NUMBERS, "s": STEPS}
WRONG = {"n": NO_NAMES, "#": NO_NUMBERS, "s": NO_STEPS}


class SplitWordsTest(unittest.TestCase):
    """Point 58."""

    def test_words(self):
        for line, expected in (
            ("undo", ["undo"]), ("take g red", ["take", "g", "red"]), ("  take   g red    ", ["take", "g", "red"]),
            (" undo", ["undo"]), ("undo ", ["undo"]), ("a  b", ["a", "b"]),
        ):
            self.assertEqual(split_words(line), expected)
            self.assertIs(type(split_words(line)), list)

    def test_lines_without_words(self):
        for many in (0, 1, 2, 50):
            self.assertEqual(split_words(" " * many), [])

    def test_only_spaces_part_words(self):
        for line in ("a\tb", "a\rb", "\t", "a\r", "a\u00a0b", "a\u2003b", "a\x0bb", "a\x0cb"):
            self.assertEqual(split_words(line), [line])
        self.assertEqual(split_words("undo \t redo\r"), ["undo", "\t", "redo\r"])


class IsCommandTest(unittest.TestCase):
    """Point 59."""

    def assert_command(self, words, expected):
        before = list(words)
        self.assertIs(is_command(words), expected, words)
        self.assertEqual(words, before)

    def test_each_command(self):
        for line, _ in COMMANDS:
            self.assert_command(line.split(" "), True)

    def test_a_word_too_few(self):
        for line, _ in COMMANDS:
            words = line.split(" ")
            for at in range(1, len(words)):
                self.assert_command(words[:at] + words[at + 1:], False)

    def test_a_word_too_many(self):
        for line, _ in COMMANDS:
            words = line.split(" ")
            for at in range(1, len(words) + 1):
                for word in ("g", "0", "1", "-1", ""):
                    self.assert_command(words[:at] + [word] + words[at:], False)

    def test_each_word_by_itself(self):
        for line, kinds in COMMANDS:
            words = line.split(" ")
            for at, kind in enumerate(kinds, 1):
                for word in RIGHT[kind]:
                    self.assert_command(words[:at] + [word] + words[at + 1:], True)
                for word in WRONG[kind]:
                    self.assert_command(words[:at] + [word] + words[at + 1:], False)

    def test_capital_letters(self):
        for line, _ in COMMANDS:
            words = line.split(" ")
            for first in (words[0].upper(), words[0].capitalize(), words[0][:-1] + words[0][-1].upper()):
                self.assert_command([first, *words[1:]], False)
        self.assert_command(["drop", "G"], False)

    def test_unknown_first_words(self):
        for first in (
            "", "end", "table", "pocket", "ball", "g", "0", "gam", "gamess", "set", "quit", "undo\r",
            "\tundo", "report", "name", "number", "step",
        ):
            for rest in ([], ["g"], ["g", "0"], ["g", "red"]):
                self.assert_command([first, *rest], False)

    def test_a_step_of_no_direction_is_a_command_all_the_same(self):
        self.assert_command("put g red 1 2 0 0 7".split(" "), True)


if __name__ == "__main__":
    unittest.main()
