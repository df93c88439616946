"""Points 5 to 8, and the functions on balls of the interface."""

import unittest

from cushioned.balls import back, check_ball, check_balls, is_ball, is_name, mirrored, turned
from cushioned.errors import InvalidBall
from cushioned.tables import Table

GREAT = 10 ** 30
TABLE = Table(4, 3, [(0, 0), (4, 1)])
BALL = ("red", 1, 3, 1, 0, 7)
GOOD_NAMES = ["a", "z", "a0", "z9", "red", "b12345678901", "abcdefghijkl"]
BAD_NAMES = [
    "", "abcdefghijklm", "a123456789012", "1", "1a", "9z", "A", "Red", "reD", "a b", " a", "a ",
    "a\n", "\na", "a\t", "_", "_a", "a_b", "-", "a-b", "a.b", "a%", "\u00e4", "a\u00e4",
    "a\u0661", "\u0430", "a\u00b2", "`", "{", "a`", "a{", "a/", "a:", "abcdefghijkl\n",
]
BAD_BALLS = [
    (), ("red",), BALL[:5], BALL + (0,), BALL + BALL,
    ("", 1, 3, 1, 0, 7), ("1a", 1, 3, 1, 0, 7), ("Red", 1, 3, 1, 0, 7),
    ("red\n", 1, 3, 1, 0, 7), ("abcdefghijklm", 1, 3, 1, 0, 7), (7, 1, 3, 1, 0, 7),
    ("red", -1, 3, 1, 0, 7), ("red", 5, 3, 1, 0, 7), ("red", "1", 3, 1, 0, 7),
    ("red", 1, -1, 1, 0, 7), ("red", 1, 4, 1, 0, 7), ("red", 1, None, 1, 0, 7),
    ("red", 1, 3, 2, 0, 7), ("red", 1, 3, -2, 0, 7), ("red", 1, 3, 0, 2, 7),
    ("red", 1, 3, 1, 2, 7), ("red", 1, 3, 1, -2, 7), ("red", 1, 3, 0, 0, 7),
    ("red", 1, 3, "1", 0, 7), ("red", 1, 3, 1, None, 7), ("red", 1, 3, True, 0, 7),
    ("red", 1, 3, 1, 0, -1), ("red", 1, 3, 1, 0, GREAT + 1), ("red", 1, 3, 1, 0, "7"),
]


def every_ball(width, height):
    for x in range(width + 1):
        for y in range(height + 1):
            for dx in (-1, 0, 1):
                for dy in (-1, 0, 1):
                    if (dx, dy) != (0, 0):
                        yield ("a", x, y, dx, dy, 7)


def row_of_balls(many):
    return [("b" + str(k), k % 5, 0, 1, 1, k) for k in range(many)]


class NameTest(unittest.TestCase):
    def test_names(self):
        for text in GOOD_NAMES:
            self.assertIs(is_name(text), True, text)

    def test_every_letter_and_digit(self):
        for letter in "abcdefghijklmnopqrstuvwxyz":
            self.assertIs(is_name(letter), True)
        for digit in "0123456789":
            self.assertIs(is_name("a" + digit), True)
            self.assertIs(is_name(digit), False)

    def test_no_names(self):
        for text in BAD_NAMES:
            self.assertIs(is_name(text), False, text)

    def test_lengths(self):
        for length in range(20):
            self.assertIs(is_name("a" * length), 1 <= length <= 12)


class BallTest(unittest.TestCase):
    def assert_ball(self, ball, table=TABLE):
        self.assertIs(is_ball(table, ball), True, ball)
        self.assertIsNone(check_ball(table, ball))

    def assert_no_ball(self, ball, table=TABLE):
        self.assertIs(is_ball(table, ball), False, ball)
        with self.assertRaises(InvalidBall):
            check_ball(table, ball)

    def test_balls_at_every_point_in_every_direction(self):
        for ball in every_ball(4, 3):
            self.assert_ball(ball)

    def test_names(self):
        for name in GOOD_NAMES:
            self.assert_ball((name, 1, 3, 1, 0, 7))
        for name in BAD_NAMES:
            self.assert_no_ball((name, 1, 3, 1, 0, 7))

    def test_minutes(self):
        for minute in (0, 1, GREAT - 1, GREAT):
            self.assert_ball(("red", 1, 3, 1, 0, minute))
        for minute in (-1, -GREAT, GREAT + 1):
            self.assert_no_ball(("red", 1, 3, 1, 0, minute))

    def test_directions(self):
        for dx in range(-3, 4):
            for dy in range(-3, 4):
                ball = ("red", 1, 3, dx, dy, 7)
                if abs(dx) <= 1 and abs(dy) <= 1 and (dx, dy) != (0, 0):
                    self.assert_ball(ball)
                else:
                    self.assert_no_ball(ball)

    def test_great_table(self):
        table = Table(GREAT, 1)
        self.assert_ball(("red", GREAT, 1, 1, 1, GREAT), table)
        self.assert_no_ball(("red", GREAT + 1, 1, 1, 1, GREAT), table)

    def test_no_balls(self):
        for ball in BAD_BALLS:
            self.assert_no_ball(ball)


class ListTest(unittest.TestCase):
    def test_lists(self):
        for many in (0, 1, 2, 12):
            balls = row_of_balls(many)
            self.assertIsNone(check_balls(TABLE, balls))
            self.assertEqual(balls, row_of_balls(many))

    def test_balls_that_differ_in_the_name_alone(self):
        self.assertIsNone(check_balls(TABLE, [BALL, ("blue", *BALL[1:])]))

    def test_more_than_twelve(self):
        for many in (13, 14):
            with self.assertRaises(InvalidBall):
                check_balls(TABLE, row_of_balls(many))

    def test_a_name_twice(self):
        other = ("red", 0, 0, 0, -1, 1)
        for balls in ([BALL, BALL], [BALL, other], [other, *row_of_balls(5), BALL]):
            with self.assertRaises(InvalidBall):
                check_balls(TABLE, balls)

    def test_no_ball_anywhere_in_the_list(self):
        for ball in BAD_BALLS:
            for at in (0, 1, 2):
                balls = row_of_balls(2)
                balls.insert(at, ball)
                with self.assertRaises(InvalidBall):
                    check_balls(TABLE, balls)


class OtherBallsTest(unittest.TestCase):
    def test_back(self):
        self.assertEqual(back(TABLE, BALL), ("red", 1, 3, -1, 0, 7))
        self.assertEqual(back(TABLE, ("b", 4, 2, -1, 1, 0)), ("b", 4, 2, 1, -1, 0))

    def test_mirrored(self):
        ball = ("b", 1, 2, 1, -1, 9)
        both, left, low, none = (
            ("b", 3, 1, -1, 1, 9), ("b", 3, 2, -1, -1, 9), ("b", 1, 1, 1, 1, 9), ball)
        self.assertEqual(mirrored(TABLE, ball), both)
        self.assertEqual(mirrored(TABLE, ball, sides=True), both)
        self.assertEqual(mirrored(TABLE, ball, ends=True), both)
        self.assertEqual(mirrored(TABLE, ball, sides=True, ends=True), both)
        self.assertEqual(mirrored(TABLE, ball, ends=False), left)
        self.assertEqual(mirrored(TABLE, ball, sides=True, ends=False), left)
        self.assertEqual(mirrored(TABLE, ball, sides=False), low)
        self.assertEqual(mirrored(TABLE, ball, sides=False, ends=True), low)
        self.assertEqual(mirrored(TABLE, ball, sides=False, ends=False), none)

    def test_choices_of_mirrored_are_keywords(self):
        with self.assertRaises(TypeError):
            mirrored(TABLE, BALL, True)

    def test_turned(self):
        self.assertEqual(turned(TABLE, ("b", 4, 2, -1, 0, 9)), ("b", 2, 4, 0, -1, 9))

    def test_great_table(self):
        ball = ("b", 1, 0, 1, -1, GREAT)
        table = Table(GREAT, GREAT)
        self.assertEqual(mirrored(table, ball), ("b", GREAT - 1, GREAT, -1, 1, GREAT))

    def test_twice_the_same_gives_the_ball(self):
        for ball in every_ball(4, 3):
            self.assertEqual(back(TABLE, back(TABLE, ball)), ball)
            self.assertEqual(turned(TABLE.turned(), turned(TABLE, ball)), ball)
            for sides in (True, False):
                for ends in (True, False):
                    once = mirrored(TABLE, ball, sides=sides, ends=ends)
                    self.assertEqual(mirrored(TABLE, once, sides=sides, ends=ends), ball)

    def test_they_are_balls_and_tuples(self):
        for ball in every_ball(4, 3):
            for found in (back(TABLE, ball), mirrored(TABLE, ball)):
                self.assertIs(type(found), tuple)
                self.assertIs(is_ball(TABLE, found), True)
            self.assertIs(type(turned(TABLE, ball)), tuple)
            self.assertIs(is_ball(TABLE.turned(), turned(TABLE, ball)), True)

    def test_no_balls(self):
        for ball in BAD_BALLS:
            for change in (back, mirrored, turned):
                with self.assertRaises(InvalidBall):
                    change(TABLE, ball)
            with self.assertRaises(InvalidBall):
                mirrored(TABLE, ball, sides=False, ends=False)

    def test_a_ball_of_the_turned_table_alone(self):
        with self.assertRaises(InvalidBall):
            turned(TABLE, ("red", 1, 4, 1, 0, 7))

    def test_interface_examples(self):
        self.assertEqual(mirrored(Table(4, 3), BALL, ends=False), ("red", 3, 3, -1, 0, 7))
        self.assertEqual(turned(Table(4, 3), ("red", 4, 3, 1, 0, 7)), ("red", 3, 4, 0, 1, 7))
        with self.assertRaises(InvalidBall):
            turned(Table(4, 3), ("red", 5, 3, 1, 0, 7))


if __name__ == "__main__":
    unittest.main()
