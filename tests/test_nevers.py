"""Points 34 to 37, and the functions of cushioned.nevers."""

import unittest

from cushioned.congruences import meeting_classes
from cushioned.errors import InvalidBall
from cushioned.nevers import check_never, never
from cushioned.tables import Table

from walks import GREAT, balls_on, groups, small_tables, turns, walked_places

TABLE = Table(2, 2)
RED = ("red", 0, 0, 1, 0, 0)
BLUE = ("blue", 1, 0, 0, 1, 0)
PAPER = [("pair", 1, 4, 0, 4, 4), ("pair", 3, 4, 0, 4, 4)]
LONG = Table(3, 2)
# On the long table: the moduli are 6 for x and 4 for y.
ONE, OTHER = ("one", 0, 0, 1, 0, 0), ("other", 1, 0, 0, 1, 0)
LONG_PAPER = [("pair", 1, 6, 0, 4, 2), ("pair", 5, 6, 0, 4, 2)]
NO_BALLS = [
    (), RED[:5], RED + (0,), ("Red", 0, 0, 1, 0, 0), ("red", 3, 0, 1, 0, 0), ("red", 0, 3, 1, 0, 0),
    ("red", 0, 0, 0, 0, 0), ("red", 0, 0, 1, 2, 0), ("red", 0, 0, 1, 0, -1),
    ("red", 0, 0, 1, 0, GREAT + 1),
]
# Rows of another form than that of a row of a paper.
NO_ROWS = [
    (), [], ("",), ("z",), ("pair",), ("X",), ("x", "y"), ("x", 0), ("y", "y"), (1,), (0, 1),
    ("pair", 1, 4, 0, 4), ("pair", 1, 4, 0, 4, 4, 4), ("pairs", 1, 4, 0, 4, 4), ("x", 1, 4, 0, 4, 4),
    (1, 1, 4, 0, 4, 4), ("pair", "1", 4, 0, 4, 4), ("pair", 1, "4", 0, 4, 4), ("pair", 1, 4, "0", 4, 4),
    ("pair", 1, 4, 0, "4", 4), ("pair", 1, 4, 0, 4, "4"), ("pair", "pair", "x", "y", "x", "y"),
    (1, 4, 0, 4, 4), ("pair", "pair", 1, 4, 0, 4, 4),
]


def classes_of(table, one, other):
    """Return the classes for x and those for y, from the places at minute 0."""
    found = []
    for side, at in ((table.width, 1), (table.height, 2)):
        place, step = one[at] - one[at + 2] * one[5], one[at + 2]
        second, move = other[at] - other[at + 2] * other[5], other[at + 2]
        found.append(meeting_classes(side, place, step, second, move))
    return found


def divisor_of(m, n):
    """Return the greatest number that divides both, by trying."""
    return [d for d in range(1, min(m, n) + 1) if m % d == 0 and n % d == 0][-1]


def is_right(rows, xs, ys):
    """Tell whether the rows are a right paper, in the words of point 35."""
    if rows == [("x",)] and not xs or rows == [("y",)] and not ys:
        return True
    if not xs or not ys:
        return False
    right = [
        ("pair", r, m, s, n, d)
        for r, m in xs for s, n in ys for d in range(1, max(m, n) + 1)
        if m % d == 0 and n % d == 0 and r % d != s % d
    ]
    covered = [any(row[1:5] == (*x, *y) for row in rows) for x in xs for y in ys]
    return all(row in right for row in rows) and all(covered)


def meet_in_a_walk(table, one, other):
    many = 8 + turns(table)
    ones, others = [walked_places(table, ball, many) for ball in (one, other)]
    return any(k in others and ones[k] == others[k] for k in ones)


def pairs_of_balls():
    """Return rows of a table and two balls, of which many never meet."""
    rows = []
    for table in small_tables([(1, 1), (1, 2), (2, 1), (2, 2), (3, 2), (2, 4)]):
        rows.extend([(table, *pair) for pair in groups(table, 2)])
        balls = balls_on(table, 0)
        rows.extend([(table, one, other) for one in balls[::7] for other in balls[::3]])
    return rows


class NeverTest(unittest.TestCase):
    """Points 34 and 36."""

    def test_against_a_walk(self):
        found = [0, 0]
        for table, one, other in pairs_of_balls():
            rows = never(table, one, other)
            meet = meet_in_a_walk(table, one, other)
            self.assertEqual(rows is None, meet, (table.width, table.height, one, other))
            found[meet] += 1
        self.assertGreater(min(found), 100)

    def test_rows(self):
        forms = {}
        for table, one, other in pairs_of_balls():
            rows = never(table, one, other)
            if rows is None:
                continue
            xs, ys = classes_of(table, one, other)
            if not xs:
                expected = [("x",)]
            elif not ys:
                expected = [("y",)]
            else:
                expected = [("pair", *x, *y, divisor_of(x[1], y[1])) for x in xs for y in ys]
            self.assertEqual(rows, expected)
            self.assertIs(type(rows), list)
            self.assertEqual({type(row) for row in rows}, {tuple})
            form = (bool(xs), bool(ys), len(rows))
            forms[form] = 1 + forms.get(form, 0)
        self.assertTrue({(False, True, 1), (True, False, 1), (False, False, 1)} <= set(forms))
        self.assertTrue({(True, True, 1), (True, True, 2), (True, True, 4)} <= set(forms))

    def test_known_rows(self):
        self.assertEqual(never(TABLE, RED, BLUE), PAPER)
        self.assertEqual(never(LONG, ONE, OTHER), LONG_PAPER)
        self.assertEqual(never(TABLE, ("a", 0, 0, 1, 1, 0), ("b", 1, 0, 1, 1, 0)), [("x",)])
        self.assertEqual(never(TABLE, ("a", 0, 0, 1, 1, 0), ("b", 0, 1, 1, 1, 0)), [("y",)])
        self.assertEqual(never(TABLE, ("a", 0, 0, 1, 1, 0), ("b", 1, 1, 1, 1, 0)), [("x",)])
        self.assertIsNone(never(TABLE, RED, RED))

    def test_the_places_before_the_start_matter_and_not_the_start(self):
        for later in (1, 2, 3, 7, 8):
            x = (0, 1, 2, 1)[later % 4]
            step = 1 if later % 4 < 2 else -1
            self.assertEqual(never(TABLE, ("red", x, 0, step, 0, later), BLUE), PAPER)
        self.assertIsNone(never(TABLE, ("red", 0, 0, 1, 0, 1), BLUE))

    def test_great_numbers(self):
        table = Table(GREAT, GREAT)
        one, other = ("a", 0, 0, 1, 0, 0), ("b", 1, 0, 0, 1, 0)
        whole = 2 * GREAT
        expected = [("pair", 1, whole, 0, whole, whole), ("pair", whole - 1, whole, 0, whole, whole)]
        self.assertEqual(never(table, one, other), expected)
        self.assertIs(check_never(table, one, other, expected), True)
        self.assertIsNone(never(Table(GREAT, GREAT - 1), one, ("b", 2, 0, 0, 1, 0)))
        self.assertEqual(
            never(table, ("a", 0, 0, 1, 1, GREAT), ("b", GREAT, 1, 1, 1, GREAT)), [("y",)])

    def test_a_returned_list_is_a_new_list(self):
        never(TABLE, RED, BLUE).clear()
        self.assertEqual(never(TABLE, RED, BLUE), PAPER)


class CheckTest(unittest.TestCase):
    """Points 35 and 36."""

    def assert_checked(self, rows, right, balls=(RED, BLUE), table=TABLE):
        self.assertIs(check_never(table, *balls, rows), right, rows)

    def test_the_rows_of_never(self):
        for table, one, other in pairs_of_balls():
            rows = never(table, one, other)
            if rows is not None:
                self.assertIs(check_never(table, one, other, rows), True)
                self.assertIs(check_never(table, one, other, [list(row) for row in rows]), True)
                self.assertIs(check_never(table, one, other, rows[1:]), False)
                self.assertIs(check_never(table, one, other, rows[:-1]), False)

    def test_every_divisor(self):
        for table, one, other in pairs_of_balls():
            xs, ys = classes_of(table, one, other)
            pairs = [("pair", *x, *y) for x in xs for y in ys]
            for divisor in range(-3, 12):
                rows = [(*pair, divisor) for pair in pairs]
                self.assertIs(check_never(table, one, other, rows), is_right(rows, xs, ys), rows)
            for word in ("x", "y"):
                expected = is_right([(word,)], xs, ys)
                self.assertIs(check_never(table, one, other, [(word,)]), expected)

    def test_left_out_and_twice(self):
        self.assert_checked(PAPER, True)
        self.assert_checked(PAPER[:1], False)
        self.assert_checked(PAPER[1:], False)
        self.assert_checked([], False)
        self.assert_checked(PAPER[::-1], True)
        self.assert_checked([PAPER[0], *PAPER], True)
        self.assert_checked(PAPER + PAPER, True)
        self.assert_checked([PAPER[0], PAPER[0]], False)
        self.assert_checked([*PAPER, ("pair", 1, 4, 0, 4, 2)], True)

    def test_changed_in_each_part(self):
        for at in range(2):
            for part in range(1, 6):
                for change in (-8, -4, -1, 1, 2, 4, GREAT):
                    rows = [list(row) for row in PAPER]
                    rows[at][part] += change
                    # The pair that the first or the second row told is not told any more.
                    self.assert_checked(rows, False)
        for at in range(2):
            rows = [list(row) for row in PAPER]
            rows[at][5] = 2
            self.assert_checked(rows, True)

    def test_a_wrong_row_behind_right_ones(self):
        for row in [("pair", 1, 4, 1, 4, 4), ("pair", 2, 4, 0, 4, 4), ("pair", 1, 4, 0, 4, 3), ("x",)]:
            self.assert_checked([*PAPER, row], False)
            self.assert_checked([row, *PAPER], False)

    def test_divisors(self):
        for divisor in (0, -1, -2, -4, 1, 3, 8, 5, 2 * GREAT):
            self.assert_checked([PAPER[0], ("pair", 3, 4, 0, 4, divisor)], False)
        for divisor in (0, -2, 1, 3, 4, 6, 12):
            rows = [LONG_PAPER[0], ("pair", 5, 6, 0, 4, divisor)]
            self.assert_checked(rows, False, (ONE, OTHER), LONG)
        self.assert_checked(LONG_PAPER, True, (ONE, OTHER), LONG)

    def test_rows_as_lists(self):
        self.assert_checked([list(row) for row in PAPER], True)
        self.assert_checked([list(PAPER[0]), PAPER[1]], True)
        self.assert_checked(tuple(PAPER), True)
        pair = (("a", 0, 0, 1, 1, 0), ("b", 1, 0, 1, 1, 0))
        self.assert_checked([["x"]], True, pair)
        self.assert_checked([["y"]], False, pair)

    def test_rows_of_another_form(self):
        pair = (("a", 0, 0, 1, 1, 0), ("b", 1, 1, 1, 1, 0))
        for row in [*NO_ROWS, ("x",), ("y",), "x", "pair"]:
            for rows in ([row], [list(row)], [row, row], [*PAPER, row], [row, *PAPER]):
                self.assert_checked(rows, False)
        for row in NO_ROWS:
            for rows in ([row], [list(row)], [("x",), row], [row, ("x",)], [row, ("y",)]):
                self.assert_checked(rows, False, pair)

    def test_one_row_alone(self):
        pair = (("a", 0, 0, 1, 1, 0), ("b", 1, 1, 1, 1, 0))
        self.assert_checked([("x",)], True, pair)
        self.assert_checked([("y",)], True, pair)
        for rows in ([], [("x",), ("x",)], [("x",), ("y",)], [("x",), *PAPER], PAPER, ["x"], ["y"]):
            self.assert_checked(rows, False, pair)

    def test_balls_that_meet(self):
        for rows in ([], [("x",)], [("y",)], PAPER, [("pair", 0, 1, 0, 1, 1)]):
            self.assert_checked(rows, False, (RED, RED))
        meeting = (RED, ("blue", 2, 0, 0, 1, 0))
        self.assertIsNone(never(LONG, *meeting))
        xs, ys = classes_of(LONG, *meeting)
        for divisor in range(-2, 13):
            rows = [("pair", *x, *y, divisor) for x in xs for y in ys]
            self.assert_checked(rows, False, meeting, LONG)

    def test_the_rows_stay(self):
        rows = [list(row) for row in PAPER]
        check_never(TABLE, RED, BLUE, rows)
        self.assertEqual(rows, [list(row) for row in PAPER])


class ErrorsTest(unittest.TestCase):
    """Point 37."""

    def test_no_balls(self):
        for ball in NO_BALLS:
            for pair in ((ball, RED), (RED, ball), (ball, ball)):
                with self.assertRaises(InvalidBall):
                    never(TABLE, *pair)
                for rows in ([], PAPER, [("x",)], [("z",)]):
                    with self.assertRaises(InvalidBall):
                        check_never(TABLE, *pair, rows)

    def test_two_balls_of_one_name_are_let(self):
        other = ("red", *BLUE[1:])
        self.assertEqual(never(TABLE, RED, other), PAPER)
        self.assertIs(check_never(TABLE, RED, other, PAPER), True)


class InterfaceTest(unittest.TestCase):
    def test_examples(self):
        found = never(Table(3, 5), ("red", 0, 0, 1, 1, 0), ("blue", 0, 1, 1, 1, 0))
        self.assertEqual(found, [("y",)])
        found = never(Table(2, 2), ("red", 0, 0, 1, 0, 0), ("blue", 1, 0, 0, 1, 0))
        self.assertEqual(found, [("pair", 1, 4, 0, 4, 4), ("pair", 3, 4, 0, 4, 4)])


if __name__ == "__main__":
    unittest.main()
