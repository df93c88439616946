"""Points 38 and 39, and the functions of cushioned.falls."""

import unittest

from cushioned.errors import InvalidBall
from cushioned.falls import fall_of, falls, first_fall, never_fall
from cushioned.runs import place_at
from cushioned.tables import Table

from walks import DIRECTIONS, GREAT, balls_on, enlarged, tables_with_pockets, walked_fall

TABLE = Table(4, 3, [(4, 3), (0, 1)])
RED = ("red", 1, 0, 1, 1, 5)
NO_BALLS = [
    (), RED[:5], RED + (0,), ("Red", 1, 0, 1, 1, 5), ("red", 5, 0, 1, 1, 5), ("red", 1, 4, 1, 1, 5),
    ("red", 1, 0, 0, 0, 5), ("red", 1, 0, 1, 2, 5), ("red", 1, 0, 1, 1, -1),
    ("red", 1, 0, 1, 1, GREAT + 1),
]


def row_of_balls(many):
    return [("b" + str(k), k % 5, k % 4, 1, 1, k) for k in range(many)]


class FallTest(unittest.TestCase):
    """Point 38."""

    def test_against_a_walk(self):
        for table in tables_with_pockets():
            for minute in (0, 6):
                for ball in balls_on(table, minute):
                    expected = walked_fall(table, ball)
                    self.assertEqual(fall_of(table, ball), expected, (ball, table.pockets))
                    expected = None if expected is None else expected[0]
                    self.assertEqual(first_fall(table, ball), expected)

    def test_a_ball_that_starts_at_a_pocket(self):
        for way in DIRECTIONS:
            for minute in (0, 5, GREAT):
                for pocket in TABLE.pockets:
                    self.assertEqual(fall_of(TABLE, ("red", *pocket, *way, minute)), (minute, pocket))

    def test_one_that_never_falls(self):
        self.assertIsNone(fall_of(TABLE, ("red", 1, 0, 1, 0, 5)))
        self.assertIsNone(first_fall(TABLE, ("red", 1, 0, 1, 0, 5)))
        self.assertIsNone(fall_of(Table(4, 3), RED))
        self.assertIsNone(first_fall(Table(4, 3), RED))

    def test_kinds(self):
        found = fall_of(Table(4, 3, [[4, 3]]), RED)
        self.assertEqual(found, (8, (4, 3)))
        self.assertIs(type(found), tuple)
        self.assertIs(type(found[1]), tuple)
        self.assertIs(type(found[0]), int)

    def test_great_tables_by_small_ones(self):
        factor = 10 ** 29
        for table in tables_with_pockets():
            if table.width + table.height > 6:
                continue
            for ball in balls_on(table, 3)[::3]:
                great, far = enlarged(table, ball, factor)
                small = walked_fall(table, ball)
                expected = None if small is None else (
                    small[0] * factor, (small[1][0] * factor, small[1][1] * factor))
                self.assertEqual(fall_of(great, far), expected)

    def test_great_coprime_sides(self):
        table = Table(GREAT, GREAT - 1, [(GREAT, 0), (7, 9), (0, GREAT - 1)])
        minute, pocket = fall_of(table, ("red", 1, 1, 1, 1, GREAT))
        self.assertGreater(minute, GREAT)
        self.assertIn(pocket, table.pockets)
        self.assertEqual(place_at(table, ("red", 1, 1, 1, 1, GREAT), minute), pocket)
        for other in table.pockets:
            if other != pocket:
                alone = fall_of(Table(GREAT, GREAT - 1, [other]), ("red", 1, 1, 1, 1, GREAT))
                self.assertTrue(alone is None or alone[0] > minute)

    def test_no_balls(self):
        for table in (TABLE, Table(4, 3)):
            for ball in NO_BALLS:
                for ask in (first_fall, fall_of):
                    with self.assertRaises(InvalidBall):
                        ask(table, ball)


class FallsTest(unittest.TestCase):
    """Point 39."""

    def test_against_a_walk(self):
        for table in tables_with_pockets():
            # Names that run against the order of the balls.
            balls = [
                (name, *ball[1:])
                for name, ball in zip("zyxwvutsrqpo", (balls_on(table, 0) + balls_on(table, 2))[::5])
            ]
            found = [(ball[0], walked_fall(table, ball)) for ball in balls]
            expected = []
            for minute in sorted({fall[0] for _, fall in found if fall}):
                for name, fall in found:
                    if fall and fall[0] == minute:
                        expected.append((minute, name, fall[1]))
            self.assertEqual(falls(table, balls), expected)
            self.assertEqual(never_fall(table, balls), [name for name, fall in found if not fall])

    def test_balls_of_one_minute_in_their_order(self):
        table = Table(4, 4, [(4, 4), (0, 0)])
        balls = [
            ("z", 3, 3, 1, 1, 0), ("b", 4, 4, 1, 0, 1), ("m", 0, 1, 0, -1, 0), ("c", 0, 0, 1, 1, 0),
            ("a", 4, 3, 0, 1, 0),
        ]
        expected = [
            (0, "c", (0, 0)), (1, "z", (4, 4)), (1, "b", (4, 4)), (1, "m", (0, 0)), (1, "a", (4, 4))]
        self.assertEqual(falls(table, balls), expected)
        self.assertEqual(never_fall(table, balls), [])
        again = [expected[0], *expected[1:][::-1]]
        self.assertEqual(falls(table, balls[::-1]), again)

    def test_they_do_not_depend_on_one_another(self):
        balls = row_of_balls(12)
        found = falls(TABLE, balls)
        alone = [row for ball in balls for row in falls(TABLE, [ball])]
        self.assertEqual(sorted(found), sorted(alone))

    def test_names_that_never_fall_are_in_the_order_of_the_balls(self):
        balls = [("z", 1, 0, 1, 0, 5), RED, ("a", 2, 0, 1, 0, 0)]
        self.assertEqual(never_fall(TABLE, balls), ["z", "a"])
        self.assertEqual(falls(TABLE, balls), [(8, "red", (4, 3))])
        self.assertEqual(never_fall(Table(4, 3), balls), ["z", "red", "a"])
        self.assertEqual(falls(Table(4, 3), balls), [])

    def test_no_balls_at_all(self):
        self.assertEqual(falls(TABLE, []), [])
        self.assertEqual(never_fall(TABLE, []), [])

    def test_twelve_and_thirteen(self):
        self.assertEqual(len(falls(TABLE, row_of_balls(12)) + never_fall(TABLE, row_of_balls(12))), 12)
        for ask in (falls, never_fall):
            for table in (TABLE, Table(4, 3)):
                with self.assertRaises(InvalidBall):
                    ask(table, row_of_balls(13))

    def test_two_of_one_name(self):
        for ask in (falls, never_fall):
            for table in (TABLE, Table(4, 3)):
                for balls in ([RED, RED], [RED, ("b", 0, 0, 1, 0, 0), ("red", 0, 0, 1, 0, 0)]):
                    with self.assertRaises(InvalidBall):
                        ask(table, balls)

    def test_one_that_is_no_ball(self):
        for ask in (falls, never_fall):
            for ball in NO_BALLS:
                for balls in ([ball], [("b", 0, 0, 1, 0, 0), ball], [ball, ("b", 0, 0, 1, 0, 0)]):
                    with self.assertRaises(InvalidBall):
                        ask(TABLE, balls)

    def test_what_is_passed_stays(self):
        balls = row_of_balls(5)
        falls(TABLE, balls).clear()
        never_fall(TABLE, balls).clear()
        self.assertEqual(balls, row_of_balls(5))
        self.assertEqual(TABLE.pockets, ((4, 3), (0, 1)))


class InterfaceTest(unittest.TestCase):
    def test_example(self):
        self.assertEqual(fall_of(TABLE, RED), (8, (4, 3)))


if __name__ == "__main__":
    unittest.main()
