"""Points 9 to 11, and the two functions of the interface."""

import unittest

from cushioned.errors import InvalidBall, InvalidNotation, InvalidTable
from cushioned.notation import format_setup, parse_setup
from cushioned.tables import Table

GREAT = 10 ** 30
FULL = "table 4 3\npocket 4 1\npocket 0 0\nball red 1 2 -1 0 7\nball b2 4 3 1 1 0"
SIGNS_AND_ZEROS = ["00", "01", "007", "+1", "-1", "-0", "+0", "--1"]
NO_NUMBERS = [
    *SIGNS_AND_ZEROS, "1" * 32, "0" * 31, "0" * 32, "", "x", "1x", "x1", "1.0", "1_0", "1,0",
    "0x1", "1e3", "\u0661", "1\u0661", "\u00b2", "1\r", "\t1", "1\t", "None", "/", ":",
]
NO_STEPS = [
    "2", "-2", "+1", "+0", "-0", "00", "01", "-01", "1-", "--1", "", "x", "\u22121", "10", "-10",
]
NO_NAMES = ["", "1a", "Red", "reD", "a_b", "a-b", "_", "abcdefghijklm", "a\t", "a\r", "\u00e4"]


def shown(setup):
    table, balls = setup
    return (table.width, table.height, table.pockets, balls)


def with_line(number, line):
    """Return the full text with another line at a number, counted from 1."""
    lines = FULL.split("\n")
    lines[number - 1] = line
    return "\n".join(lines)


class FormatTest(unittest.TestCase):
    def test_table_alone(self):
        self.assertEqual(format_setup(Table(4, 3), []), "table 4 3")
        self.assertEqual(format_setup(Table(GREAT, 1), []), "table 1" + "0" * 30 + " 1")

    def test_pockets_and_balls_in_their_orders(self):
        table = Table(4, 3, [[4, 1], [0, 0]])
        balls = [("red", 1, 2, -1, 0, 7), ("b2", 4, 3, 1, 1, 0)]
        self.assertEqual(format_setup(table, balls), FULL)
        self.assertEqual(balls, [("red", 1, 2, -1, 0, 7), ("b2", 4, 3, 1, 1, 0)])
        self.assertEqual(
            format_setup(Table(4, 3, [(0, 0), (4, 1)]), balls[::-1]),
            "table 4 3\npocket 0 0\npocket 4 1\nball b2 4 3 1 1 0\nball red 1 2 -1 0 7")

    def test_great_numbers(self):
        ball = ("a", GREAT, 1, 0, -1, GREAT)
        great = "1" + "0" * 30
        self.assertEqual(
            format_setup(Table(GREAT, 1), [ball]),
            "table " + great + " 1\nball a " + great + " 1 0 -1 " + great)


class ParseTest(unittest.TestCase):
    def assert_wrong(self, text, line):
        with self.assertRaises(InvalidNotation, msg=text) as caught:
            parse_setup(text)
        self.assertEqual(caught.exception.line, line, text)

    def test_whole_text(self):
        found = parse_setup(FULL)
        self.assertIs(type(found), tuple)
        self.assertIs(type(found[0]), Table)
        self.assertIs(type(found[1]), list)
        balls = [("red", 1, 2, -1, 0, 7), ("b2", 4, 3, 1, 1, 0)]
        self.assertEqual(shown(found), (4, 3, ((4, 1), (0, 0)), balls))
        self.assertEqual([type(ball) for ball in found[1]], [tuple, tuple])

    def test_parts_of_the_text(self):
        self.assertEqual(shown(parse_setup("table 1 2")), (1, 2, (), []))
        self.assertEqual(shown(parse_setup("table 1 2\npocket 1 0")), (1, 2, ((1, 0),), []))
        self.assertEqual(
            shown(parse_setup("table 1 2\nball a 1 0 0 1 0")), (1, 2, (), [("a", 1, 0, 0, 1, 0)]))

    def test_there_and_back(self):
        pockets = [(k, k % 4) for k in range(12)]
        balls = [("a" * k, k, 2, -1, k % 2, GREAT - k) for k in range(1, 13)]
        for table in (Table(GREAT, 3), Table(12, GREAT, pockets)):
            for many in (0, 1, 12):
                text = format_setup(table, balls[:many])
                found = parse_setup(text)
                self.assertEqual(
                    shown(found), (table.width, table.height, table.pockets, balls[:many]))
                self.assertEqual(format_setup(*found), text)

    def test_first_line(self):
        for text in [
            "", " ", "\n", "table", "table 4", "table 4 3 2", "tables 4 3", "Table 4 3", "TABLE 4 3",
            " table 4 3", "table 4 3 ", "table  4 3", "table 4  3", "table\t4 3", "\ntable 4 3",
            "pocket 0 0", "ball red 1 2 -1 0 7", "4 3", "pocket 0 0\ntable 4 3", "table 4 3\r\n",
        ]:
            self.assert_wrong(text, 1)

    def test_empty_lines(self):
        self.assert_wrong("table 4 3\n", 2)
        self.assert_wrong("table 4 3\n\npocket 0 0", 2)
        self.assert_wrong("table 4 3\n ", 2)
        self.assert_wrong(FULL + "\n", 6)
        self.assert_wrong(FULL + "\n\n", 6)

    def test_other_first_words(self):
        for word in ["", "Pocket", "POCKET", "pockets", "hole", "0", "table"]:
            self.assert_wrong(with_line(2, word + " 4 1"), 2)
        for word in ["", "Ball", "BALL", "balls", "pocket", "table"]:
            self.assert_wrong(with_line(4, word + " red 1 2 -1 0 7"), 4)

    def test_a_second_first_line(self):
        for number in (2, 3, 4, 5):
            self.assert_wrong(with_line(number, "table 4 3"), number)
        self.assert_wrong(FULL + "\ntable 4 3", 6)

    def test_a_pocket_behind_a_ball(self):
        self.assert_wrong(FULL + "\npocket 1 1", 6)
        self.assert_wrong(with_line(5, "pocket 1 1"), 5)
        self.assert_wrong("table 4 3\nball red 1 2 -1 0 7\npocket 0 0\nball b2 0 0 1 1 0", 3)

    def test_blanks(self):
        for number, line in enumerate(FULL.split("\n"), 1):
            self.assert_wrong(with_line(number, " " + line), number)
            self.assert_wrong(with_line(number, line + " "), number)
            self.assert_wrong(with_line(number, line + "\r"), number)
            for at, sign in enumerate(line):
                if sign == " ":
                    self.assert_wrong(with_line(number, line[:at] + " " + line[at:]), number)
                    self.assert_wrong(with_line(number, line[:at] + "\t" + line[at + 1:]), number)

    def test_a_word_too_many_or_too_few(self):
        for number, line in enumerate(FULL.split("\n"), 1):
            words = line.split(" ")
            self.assert_wrong(with_line(number, line + " 0"), number)
            for at in range(len(words)):
                self.assert_wrong(with_line(number, " ".join(words[:at] + words[at + 1:])), number)

    def test_integers(self):
        for number, places in [(1, (1, 2)), (2, (1, 2)), (4, (2, 3, 6))]:
            words = FULL.split("\n")[number - 1].split(" ")
            for at in places:
                for word in NO_NUMBERS:
                    line = " ".join(words[:at] + [word] + words[at + 1:])
                    self.assert_wrong(with_line(number, line), number)

    def test_integers_of_31_digits_have_the_form(self):
        many = "1" * 31
        for text in ["table " + many + " 1", "table 1 " + many, "table 1 1\npocket 1 " + many]:
            with self.assertRaises(InvalidTable):
                parse_setup(text)
        for line in ["ball a 0 0 1 1 ", "ball a 0 "]:
            with self.assertRaises(InvalidBall):
                parse_setup("table 1 1\n" + line + many + (" 1 1 0" if line == "ball a 0 " else ""))
        great = "1" + "0" * 30
        found = parse_setup("table " + great + " 1\nball a " + great + " 0 1 1 " + great)
        self.assertEqual(shown(found), (GREAT, 1, (), [("a", GREAT, 0, 1, 1, GREAT)]))

    def test_names(self):
        for name in NO_NAMES:
            self.assert_wrong("table 4 3\nball " + name + " 1 2 -1 0 7", 2)
        for name in ["a", "z9", "abcdefghijkl", "table", "pocket", "ball"]:
            found = parse_setup("table 4 3\nball " + name + " 1 2 -1 0 7")
            self.assertEqual(found[1], [(name, 1, 2, -1, 0, 7)])

    def test_steps(self):
        for word in NO_STEPS:
            self.assert_wrong("table 4 3\nball a 1 2 " + word + " 1 7", 2)
            self.assert_wrong("table 4 3\nball a 1 2 1 " + word + " 7", 2)
        for dx in (-1, 0, 1):
            for dy in (-1, 0, 1):
                if (dx, dy) != (0, 0):
                    found = parse_setup(f"table 4 3\nball a 1 2 {dx} {dy} 7")
                    self.assertEqual(found[1], [("a", 1, 2, dx, dy, 7)])

    def test_the_first_of_two_faults(self):
        self.assert_wrong("table 4 03\npocket 0", 1)
        self.assert_wrong("table 4 3\npocket 0\nball red", 2)
        self.assert_wrong("table 4 3\nball a 1 2 -1 0 7\npocket 0 0\nball A 0 0 1 1 0", 3)
        self.assert_wrong("table 4 3\nball A 1 2 -1 0 7\npocket 0 0", 2)

    def test_the_form_comes_ahead_of_the_rules(self):
        self.assert_wrong("table 0 3\npocket 9 9\nball a 9 9 0 0 0\n", 4)
        self.assert_wrong("table 4 3\nball a 9 9 1 1 0\nball a 1 1 1 1 00", 3)
        self.assert_wrong("table 4 3" + "\npocket 0 0" * 13 + "\npocket 0", 15)

    def test_invalid_tables(self):
        for text in [
            "table 0 3", "table 4 0", "table 1" + "0" * 29 + "1 3", "table 4 1" + "0" * 29 + "1",
            "table 4 3\npocket 5 0", "table 4 3\npocket 0 4", "table 4 3\npocket 0 0\npocket 0 0",
            "table 20 3" + "".join([f"\npocket {k} 0" for k in range(13)]),
        ]:
            with self.assertRaises(InvalidTable):
                parse_setup(text)

    def test_the_table_comes_ahead_of_the_balls(self):
        for text in [
            "table 0 3\nball a 9 9 1 1 0", "table 4 3\npocket 5 0\nball a 1 1 0 0 0",
            "table 4 3\npocket 0 0\npocket 0 0" + "\nball a 1 1 1 1 0" * 13,
        ]:
            with self.assertRaises(InvalidTable):
                parse_setup(text)

    def test_invalid_balls(self):
        for text in [
            "table 4 3\nball a 5 0 1 1 0", "table 4 3\nball a 0 4 1 1 0",
            "table 4 3\nball a 1 1 0 0 0", "table 4 3\nball a 1 1 1 1 1" + "0" * 29 + "1",
            "table 4 3\nball a 1 1 1 1 0\nball a 2 1 1 1 0",
            "table 4 3" + "".join([f"\nball a{k} 0 0 1 1 0" for k in range(13)]),
        ]:
            with self.assertRaises(InvalidBall):
                parse_setup(text)

    def test_interface_examples(self):
        self.assertEqual(
            format_setup(Table(4, 3, [(0, 0)]), [("red", 1, 2, -1, 0, 7)]),
            "table 4 3\npocket 0 0\nball red 1 2 -1 0 7")
        self.assertEqual(
            parse_setup("table 4 3\nball red 1 2 0 1 0")[1], [("red", 1, 2, 0, 1, 0)])
        self.assert_wrong("table 4 3\nball red 1 2 0 +1 0", 2)


if __name__ == "__main__":
    unittest.main()
