"""Points 68 to 70, and the functions of cushioned.texts."""

import unittest

from cushioned.errors import InvalidBall, InvalidNotation, InvalidPaper, InvalidQuestion
from cushioned.meetings import meetings
from cushioned.nevers import check_never, never
from cushioned.tables import Table
from cushioned.texts import check_text, never_text, parse_never, parse_times, times_text
from cushioned.times import Times

from walks import GREAT, groups, small_tables

TABLE = Table(4, 3)
A = ("a", 0, 0, 1, 0, 0)
B = ("b", 0, 1, 1, 0, 0)
NO_BALLS = [(), A[:5], ("A", *A[1:]), ("a", 5, 0, 1, 0, 0), ("a", 0, 0, 0, 0, 0), ("a", 0, 0, 1, 0, -1)]
TIMES = "times 5 90\nclass 1 4\nclass 3 8\nclass 6 8"
PAPER = "never\npair 1 4 2 6 2\nx\npair 0 4 3 6 1\ny"
LONG = "1" * 70
NO_NUMBERS = [
    "", "00", "01", "007", "0" * 70, "0" * 71, "1" * 71, "9" * 71, "+1", "-1", "-0", "1.0", "1_0", "x",
    "1x", "x1", "0x1", "1e3", "\u0661", "1\u0661", "\u00b2", "1\r", "\t1", "1\t", "None", "--", "1-",
]
# The places of the integers in each line that has some.
TIMES_PLACES = {1: (1, 2), 2: (1, 2), 3: (1, 2), 4: (1, 2)}
PAPER_PLACES = {2: (1, 2, 3, 4, 5), 4: (1, 2, 3, 4, 5)}


def shown(times):
    return (times.start, times.end, times.classes)


def with_line(text, number, line):
    """Return the text with another line at a number, counted from 1."""
    lines = text.split("\n")
    lines[number - 1] = line
    return "\n".join(lines)


def without_line(text, number):
    lines = text.split("\n")
    return "\n".join(lines[:number - 1] + lines[number:])


def faults(text, places):
    """Return texts with one fault of the form each, with the number of the line."""
    rows = []
    for number, line in enumerate(text.split("\n"), 1):
        words = line.split(" ")
        wrong = [
            " " + line, line + " ", line + "\r", "\t" + line, "", " ", line.replace(" ", "\t", 1) + "\t",
            line.capitalize(), line.upper(), line + " 0", line + " x", "z", "end", "0", "table 4 3", "- -",
            "class", "times", "pair", "never x", "x x", "y 1", "xx", "pairs 1 2 3 4 5", "classes 1 2",
        ]
        wrong += [line[:at] + " " + line[at:] for at, sign in enumerate(line) if sign == " "]
        wrong += [" ".join(words[:at] + words[at + 1:]) for at in range(len(words)) if len(words) > 1]
        wrong += [
            " ".join([*words[:at], word, *words[at + 1:]])
            for at in places.get(number, ()) for word in NO_NUMBERS
        ]
        rows += [(number, with_line(text, number, other)) for other in wrong]
    many = len(text.split("\n"))
    rows += [(many + 1, text + "\n"), (many + 1, text + "\n\n"), (many + 1, text + "\n ")]
    return rows


class FormsCase(unittest.TestCase):
    def assert_faults(self, parse, kind, rows):
        for number, text in rows:
            with self.assertRaises(kind, msg=text) as caught:
                parse(text)
            self.assertIs(type(caught.exception), kind)
            self.assertEqual(caught.exception.line, number, text)


class TimesTextTest(FormsCase):
    """Point 68."""

    def test_text(self):
        classes = [(6, 8), (1, 4), (3, 8)]
        self.assertEqual(times_text(Times(5, 90, classes)), TIMES)
        self.assertEqual(times_text(Times(5, None, classes)), TIMES.replace("90", "-"))

    def test_no_classes(self):
        for start, end, text in ((0, None, "times 0 -"), (0, 0, "times 0 0"), (9, 3, "times 9 3")):
            self.assertEqual(times_text(Times(start, end, [])), text)

    def test_figures_of_70_digits(self):
        times = Times(int(LONG), int(LONG) + 1, [(int(LONG), int("2" * 70))])
        text = f"times {LONG} {LONG[:-1]}2\nclass {LONG} {'2' * 70}"
        self.assertEqual(times_text(times), text)
        self.assertEqual(shown(parse_times(text)), shown(times))

    def test_what_is_passed_stays(self):
        times = Times(5, 90, [(6, 8), (1, 4)])
        times_text(times)
        self.assertEqual(shown(times), (5, 90, [(1, 4), (6, 8)]))


class ParseTimesTest(FormsCase):
    """Point 69."""

    def test_there_and_back(self):
        for classes in ([], [(0, 1)], [(1, 4), (3, 8), (6, 8)], [(k, 64) for k in range(64)], [(0, GREAT)]):
            for start in (0, 7, GREAT):
                for end in (None, 0, 7, GREAT):
                    times = Times(start, end, classes)
                    found = parse_times(times_text(times))
                    self.assertIs(type(found), Times)
                    self.assertEqual(shown(found), shown(times))

    def test_the_times_of_balls(self):
        for table in small_tables()[:6]:
            for one, other in groups(table, 2):
                times = meetings(table, one, other)
                self.assertEqual(shown(parse_times(times_text(times))), shown(times))

    def test_classes_in_any_order(self):
        for classes in ("1 4,3 8,6 8", "6 8,3 8,1 4", "3 8,1 4,6 8"):
            text = "times 5 90" + "".join("\nclass " + part for part in classes.split(","))
            self.assertEqual(shown(parse_times(text)), (5, 90, [(1, 4), (3, 8), (6, 8)]))

    def test_each_fault(self):
        rows = faults(TIMES, TIMES_PLACES)
        self.assertGreater(len(rows), 200)
        self.assert_faults(parse_times, InvalidNotation, rows)
        self.assert_faults(parse_times, InvalidNotation, faults("times 0 -", {1: (1, 2)}))

    def test_a_second_fault_behind_it(self):
        for number, text in faults(TIMES, TIMES_PLACES)[::5]:
            for behind in ("\n", "\nclass 01 2", "\nclass 1 4", "\nx", "\n\n"):
                self.assert_faults(parse_times, InvalidNotation, [(number, text + behind)])
        self.assert_faults(parse_times, InvalidNotation, [(1, "\n"), (2, "times 0 -\nx\nclass 01 4\n")])

    def test_the_empty_string(self):
        self.assert_faults(parse_times, InvalidNotation, [(1, ""), (1, " "), (1, "\n" + TIMES)])

    def test_no_first_line_and_a_second_one(self):
        rows = [(1, without_line(TIMES, 1)), (2, "times 5 90\n" + TIMES), (5, TIMES + "\ntimes 5 90")]
        rows += [(number, with_line(TIMES, number, "times 5 90")) for number in (2, 3, 4)]
        rows += [(1, with_line(TIMES, 1, "class 1 4"))]
        self.assert_faults(parse_times, InvalidNotation, rows)

    def test_lines_of_papers(self):
        self.assert_faults(parse_times, InvalidNotation, [(1, PAPER), (1, "never")])
        for line in ("never", "x", "y", "pair 1 4 2 6 2"):
            rows = [(number, with_line(TIMES, number, line)) for number in (1, 2, 3, 4)]
            self.assert_faults(parse_times, InvalidNotation, rows)

    def test_an_end_is_a_number_or_none_at_all(self):
        self.assertEqual(shown(parse_times("times 5 -")), (5, None, []))
        self.assertEqual(shown(parse_times("times 5 3")), (5, 3, []))
        rows = [(1, "times - 5"), (1, "times - -"), (1, "times 5 --"), (2, "times 5 -\nclass 1 -")]
        self.assert_faults(parse_times, InvalidNotation, rows)

    def test_70_digits_are_taken_and_71_are_not(self):
        found = parse_times(f"times {LONG} {LONG}\nclass {LONG} {'2' * 70}")
        self.assertEqual(shown(found), (int(LONG), int(LONG), [(int(LONG), int("2" * 70))]))
        for text, number in (
            (f"times {LONG}1 -", 1), (f"times 0 {LONG}1", 1), (f"times 0 -\nclass {LONG}1 {'2' * 71}", 2),
            (f"times 0 -\nclass 1 4\nclass 0 {LONG}1", 3),
        ):
            self.assert_faults(parse_times, InvalidNotation, [(number, text)])

    def test_what_makes_no_times(self):
        for lines in (
            ["4 4"], ["5 4"], ["0 0"], ["1 0"], ["0 1", "0 2"], ["1 4", "1 4"], ["1 4", "3 6"],
            ["1 4", "3 8", "7 8", "5 12"], [f"{k} 70" for k in range(65)],
            [f"{LONG} {LONG}"], [f"{k} 90" for k in range(80)],
        ):
            for first in ("times 5 90", "times 0 -"):
                with self.assertRaises(InvalidQuestion):
                    parse_times("\n".join([first, *["class " + line for line in lines]]))

    def test_the_form_comes_first(self):
        rows = [
            (3, "times 0 -\nclass 4 4\nclass 01 4"), (4, "times 0 -\nclass 1 4\nclass 1 4\n"),
            (67, "times 0 -" + "".join(f"\nclass {k} 70" for k in range(65)) + "\nclass"),
        ]
        self.assert_faults(parse_times, InvalidNotation, rows)

    def test_64_classes_are_taken_and_65_are_not(self):
        lines = [f"\nclass {k} 70" for k in range(65)]
        found = parse_times("times 0 -" + "".join(lines[:64]))
        self.assertEqual(found.classes, [(k, 70) for k in range(64)])
        with self.assertRaises(InvalidQuestion):
            parse_times("times 0 -" + "".join(lines))


class NeverTextTest(FormsCase):
    """Points 68 and 69."""

    def test_text(self):
        rows = [("pair", 1, 4, 2, 6, 2), ("x",), ("pair", 0, 4, 3, 6, 1), ("y",)]
        self.assertEqual(never_text(rows), PAPER)
        self.assertEqual(never_text([list(row) for row in rows]), PAPER)
        self.assertEqual(never_text(rows[::-1]).split("\n")[1:], PAPER.split("\n")[:0:-1])
        self.assertEqual((never_text([]), never_text([("x",)])), ("never", "never\nx"))

    def test_the_list_stays(self):
        rows = [("pair", 1, 4, 2, 6, 2), ["x"]]
        never_text(rows)
        self.assertEqual(rows, [("pair", 1, 4, 2, 6, 2), ["x"]])

    def test_parsing(self):
        expected = [("pair", 1, 4, 2, 6, 2), ("x",), ("pair", 0, 4, 3, 6, 1), ("y",)]
        found = parse_never(PAPER)
        self.assertEqual(found, expected)
        self.assertEqual({type(found)}, {list})
        self.assertEqual({type(row) for row in found}, {tuple})
        self.assertEqual({type(part) for row in found for part in row[1:]}, {int})
        self.assertEqual((parse_never("never"), parse_never("never\ny\ny")), ([], [("y",), ("y",)]))

    def test_there_and_back(self):
        for table in small_tables():
            for one, other in groups(table, 2):
                rows = never(table, one, other)
                if rows is not None:
                    self.assertEqual(parse_never(never_text(rows)), rows)
        rows = [("pair", 0, 1, 2, 3, 4)] * 300
        self.assertEqual(parse_never(never_text(rows)), rows)

    def test_figures_of_70_digits(self):
        line = " ".join(["pair"] + [LONG] * 5)
        rows = [("pair", *[int(LONG)] * 5)]
        self.assertEqual(never_text(rows), "never\n" + line)
        self.assertEqual(parse_never("never\n" + line), rows)
        for at in range(1, 6):
            words = line.split(" ")
            words[at] += "1"
            self.assert_faults(parse_never, InvalidPaper, [(2, "never\n" + " ".join(words))])

    def test_each_fault(self):
        rows = faults(PAPER, PAPER_PLACES)
        self.assertGreater(len(rows), 300)
        self.assert_faults(parse_never, InvalidPaper, rows)
        self.assert_faults(parse_never, InvalidPaper, faults("never", {}))

    def test_a_second_fault_behind_it(self):
        for number, text in faults(PAPER, PAPER_PLACES)[::5]:
            for behind in ("\n", "\npair 01 4 2 6 2", "\nx", "\nz", "\n\n"):
                self.assert_faults(parse_never, InvalidPaper, [(number, text + behind)])

    def test_the_empty_string(self):
        self.assert_faults(parse_never, InvalidPaper, [(1, ""), (1, " "), (1, "\n"), (1, "\n" + PAPER)])

    def test_no_first_line_and_a_second_one(self):
        rows = [(1, without_line(PAPER, 1)), (2, "never\n" + PAPER), (6, PAPER + "\nnever")]
        rows += [(number, with_line(PAPER, number, "never")) for number in (2, 3, 4, 5)]
        self.assert_faults(parse_never, InvalidPaper, rows)

    def test_lines_of_sets(self):
        self.assert_faults(parse_never, InvalidPaper, [(1, TIMES), (1, "times 0 -")])
        for line in ("times 0 -", "times 5 90", "class 1 4"):
            rows = [(number, with_line(PAPER, number, line)) for number in (1, 2, 3, 4, 5)]
            self.assert_faults(parse_never, InvalidPaper, rows)


class CheckTextTest(FormsCase):
    """Point 70."""

    def test_the_text_of_never(self):
        found = {True: 0, False: 0}
        for table in small_tables():
            for one, other in groups(table, 2):
                rows = never(table, one, other)
                found[rows is None] += 1
                if rows is not None:
                    self.assertIs(check_text(table, one, other, never_text(rows)), True)
        self.assertGreater(min(found.values()), 20)

    def test_changed_rows(self):
        table, one, other = Table(2, 2), ("a", 0, 0, 1, 0, 0), ("b", 1, 0, 0, 1, 0)
        rows = never(table, one, other)
        self.assertEqual(rows, [("pair", 1, 4, 0, 4, 4), ("pair", 3, 4, 0, 4, 4)])
        for changed, expected in (
            (rows, True), (rows[::-1], True), ([("pair", 1, 4, 0, 4, 2), rows[1]], True),
            (rows[:1], False), ([], False), ([("x",)], False), ([*rows, ("x",)], False),
            ([("pair", 1, 4, 0, 4, 1), rows[1]], False), ([("pair", 1, 4, 0, 4, 0), rows[1]], False),
            ([("pair", 1, 4, 0, 4, 8), rows[1]], False), ([("pair", 1, 4, 1, 4, 4), rows[1]], False),
        ):
            self.assertIs(check_text(table, one, other, never_text(changed)), expected, changed)
            self.assertIs(check_never(table, one, other, changed), expected)

    def test_one_row_of_a_word(self):
        for text, expected in (("never\ny", True), ("never\nx", False), ("never\ny\ny", False), ("never", False)):
            self.assertIs(check_text(TABLE, A, B, text), expected)

    def test_balls_that_meet(self):
        other = ("b", 4, 0, -1, 0, 0)
        self.assertIsNone(never(TABLE, A, other))
        for text in ("never", "never\nx", "never\ny", "never\npair 2 4 0 1 1", PAPER):
            self.assertIs(check_text(TABLE, A, other, text), False)

    def test_the_form_comes_ahead_of_the_balls(self):
        for ball in NO_BALLS:
            for one, other in ((ball, A), (A, ball), (ball, ball)):
                for number, text in ((1, ""), (2, "never\nz"), (2, "never\n"), (3, "never\nx\npair 1 4 2 6 02")):
                    with self.assertRaises(InvalidPaper) as caught:
                        check_text(TABLE, one, other, text)
                    self.assertEqual(caught.exception.line, number)
                for text in ("never", "never\nx", PAPER):
                    with self.assertRaises(InvalidBall):
                        check_text(TABLE, one, other, text)

    def test_great_numbers(self):
        table = Table(GREAT, GREAT)
        one, other = ("a", 0, 0, 1, 0, GREAT), ("b", 1, 0, 0, 1, GREAT)
        text = never_text(never(table, one, other))
        self.assertIs(check_text(table, one, other, text), True)
        self.assertIs(check_text(table, one, ("b", 2, 0, 0, 1, GREAT), text), False)


class InterfaceTest(unittest.TestCase):
    def test_examples(self):
        self.assertEqual(
            times_text(Times(5, None, [(3, 8), (1, 4)])), "times 5 -\nclass 1 4\nclass 3 8")
        self.assertEqual(parse_never("never\npair 1 4 2 6 2"), [("pair", 1, 4, 2, 6, 2)])
        self.assertIs(check_text(TABLE, A, B, "never\ny"), True)
        with self.assertRaises(InvalidPaper):
            check_text(TABLE, A, B, "never\nz")


if __name__ == "__main__":
    unittest.main()
