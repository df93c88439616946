"""Points 71 to 75, and the functions of cushioned.enlarged."""

import math
import unittest

from cushioned.enlarged import enlarged, enlarged_ball, factor_of, greatest_factor, reduced
from cushioned.errors import InvalidBall, InvalidQuestion, InvalidTable
from cushioned.falls import fall_of
from cushioned.meetings import meetings
from cushioned.runs import heading_at, place_at
from cushioned.tables import Table

from walks import (
    GREAT, balls_on, games_on, groups, small_balls, tables_with_pockets, turns, walk, walked_fall,
    walked_places)

TABLE = Table(4, 3, [(4, 0), (0, 0), (2, 1)])
RED = ("red", 1, 2, -1, 0, 7)
NO_BALLS = [
    (), RED[:5], RED + (0,), ("Red", *RED[1:]), ("red", 5, 2, -1, 0, 7), ("red", 1, 4, -1, 0, 7),
    ("red", 1, 2, 0, 0, 7), ("red", 1, 2, -2, 0, 7), ("red", 1, 2, -1, 0, -1),
    ("red", 1, 2, -1, 0, GREAT + 1),
]
NO_FACTORS = [0, -1, -GREAT, GREAT + 1, 10 ** 70]
FACTORS = (1, 2, 3, 7)


def shown(table):
    return (table.width, table.height, table.pockets)


class EnlargedTest(unittest.TestCase):
    """Point 71."""

    def test_tables(self):
        for table in tables_with_pockets():
            for factor in (1, 2, 5, GREAT // 100):
                found = enlarged(table, factor)
                self.assertIs(type(found), Table)
                self.assertIsNot(found, table)
                self.assertEqual(shown(found), (
                    table.width * factor, table.height * factor,
                    tuple((x * factor, y * factor) for x, y in table.pockets)))

    def test_the_table_stays(self):
        enlarged(TABLE, 5)
        self.assertEqual(shown(TABLE), (4, 3, ((4, 0), (0, 0), (2, 1))))

    def test_factors(self):
        self.assertEqual(shown(enlarged(Table(1, 1, [(1, 0)]), GREAT)), (GREAT, GREAT, ((GREAT, 0),)))
        self.assertEqual(shown(enlarged(TABLE, 1)), shown(TABLE))
        for factor in NO_FACTORS:
            for table in (TABLE, Table(1, 1), Table(GREAT, GREAT)):
                with self.assertRaises(InvalidQuestion):
                    enlarged(table, factor)

    def test_tables_that_are_too_great(self):
        for table, factor in (
            (Table(10 ** 29, 1), 10), (Table(1, 10 ** 29), 10), (Table(GREAT // 3, 2), 3), (Table(GREAT, 1), 1),
        ):
            self.assertEqual(enlarged(table, factor).width, table.width * factor)
            with self.assertRaises(InvalidTable):
                enlarged(table, factor + 1)
        for table in (Table(2, 1), Table(1, 2), TABLE):
            with self.assertRaises(InvalidTable):
                enlarged(table, GREAT)

    def test_balls(self):
        for table, ball in small_balls([(1, 1), (2, 1), (3, 2)]):
            for factor in FACTORS:
                name, x, y, dx, dy, minute = ball
                expected = (name, x * factor, y * factor, dx, dy, minute * factor)
                found = enlarged_ball(table, ball, factor)
                self.assertEqual(found, expected)
                self.assertIs(type(found), tuple)

    def test_minutes_that_are_too_late(self):
        table = Table(1, 1)
        for minute, factor in ((GREAT, 1), (GREAT // 2, 2), (1, GREAT), (10 ** 29, 10)):
            ball = ("red", 1, 0, 1, 1, minute)
            self.assertEqual(enlarged_ball(table, ball, factor)[5], GREAT)
            with self.assertRaises(InvalidBall):
                enlarged_ball(table, ("red", 1, 0, 1, 1, minute + 1), factor)
        with self.assertRaises(InvalidBall):
            enlarged_ball(table, ("red", 1, 0, 1, 1, GREAT // 2 + 1), 2)

    def test_errors_of_balls_in_their_order(self):
        late = ("red", 1, 2, -1, 0, GREAT)
        for ball in NO_BALLS:
            for factor in (1, 2, GREAT, *NO_FACTORS):
                with self.assertRaises(InvalidBall):
                    enlarged_ball(TABLE, ball, factor)
        for ball in (RED, late):
            for factor in NO_FACTORS:
                with self.assertRaises(InvalidQuestion):
                    enlarged_ball(TABLE, ball, factor)
            with self.assertRaises(InvalidTable):
                enlarged_ball(TABLE, ball, GREAT)
        with self.assertRaises(InvalidBall):
            enlarged_ball(TABLE, late, 2)


class RunsTest(unittest.TestCase):
    """Points 72 and 73."""

    def test_places_and_headings(self):
        for table, ball in small_balls([(1, 1), (2, 1), (2, 2), (3, 2)], minutes=(0, 3)):
            for factor in FACTORS:
                great, far = enlarged(table, factor), enlarged_ball(table, ball, factor)
                for minute, (x, y), heading in walk(table, ball, turns(table) + 3):
                    self.assertEqual(place_at(great, far, minute * factor), (x * factor, y * factor))
                    self.assertEqual(heading_at(great, far, minute * factor), heading)
                self.assertIsNone(place_at(great, far, ball[5] * factor - 1))

    def test_falls(self):
        for table in tables_with_pockets()[:50]:
            for ball in balls_on(table, 3)[::5]:
                for factor in (2, 3):
                    great, far = enlarged(table, factor), enlarged_ball(table, ball, factor)
                    fall = walked_fall(table, ball)
                    if fall is None:
                        expected = None
                    else:
                        minute, (x, y) = fall
                        expected = (minute * factor, (x * factor, y * factor))
                    self.assertEqual(walked_fall(great, far), expected)
                    self.assertEqual(fall_of(great, far), expected)

    def test_meetings(self):
        more = 0
        for table in (Table(1, 1), Table(2, 1), Table(2, 2), Table(3, 2)):
            for one, other in groups(table, 2):
                ones, others = [walked_places(table, ball, turns(table) + 9) for ball in (one, other)]
                shared = [k for k in ones if k in others]
                for factor in (2, 3, 10 ** 29):
                    great = enlarged(table, factor)
                    times = meetings(great, *[enlarged_ball(table, ball, factor) for ball in (one, other)])
                    for minute in shared:
                        self.assertIs(times.holds(minute * factor), ones[minute] == others[minute])
                    more += any(times.holds(minute * factor + factor // 2) for minute in shared)
        self.assertGreater(more, 0)


class FactorOfTest(unittest.TestCase):
    """Point 74."""

    def test_each_factor(self):
        for table in tables_with_pockets():
            for factor in (1, 2, 3, GREAT // 6):
                self.assertEqual(factor_of(table, enlarged(table, factor)), factor)
                if factor > 1:
                    self.assertIsNone(factor_of(enlarged(table, factor), table))

    def test_pockets_in_another_order(self):
        for factor in (1, 5):
            x, y, z = enlarged(TABLE, factor).pockets
            for pockets in ([x, y, z], [z, y, x], [y, z, x], [z, x, y]):
                self.assertEqual(factor_of(TABLE, Table(4 * factor, 3 * factor, pockets)), factor)

    def test_one_pocket_or_size_changed(self):
        great = enlarged(TABLE, 5)
        for width, height in ((20, 16), (21, 15), (20, 20), (40, 15), (25, 15), (20, 30), (24, 15)):
            self.assertIsNone(factor_of(TABLE, Table(width, height, great.pockets)))
        for at in range(3):
            for pocket in ((20, 15), (1, 1), (5, 5), (19, 0), (4, 0), (20, 1)):
                pockets = list(great.pockets)
                pockets[at] = pocket
                self.assertIsNone(factor_of(TABLE, Table(20, 15, pockets)))

    def test_another_number_of_pockets(self):
        great = enlarged(TABLE, 5)
        self.assertIsNone(factor_of(TABLE, great.with_pocket((20, 15))))
        for pocket in great.pockets:
            self.assertIsNone(factor_of(TABLE, great.without_pocket(pocket)))
            self.assertIsNone(factor_of(TABLE.without_pocket(TABLE.pockets[0]), great))
        self.assertIsNone(factor_of(Table(4, 3), great))
        self.assertIsNone(factor_of(TABLE, Table(20, 15)))

    def test_no_factor(self):
        for one, other in (
            ((4, 3), (6, 4)), ((4, 3), (4, 6)), ((4, 3), (8, 3)), ((4, 6), (2, 3)), ((4, 4), (1, 1)),
            ((2, 2), (3, 3)), ((4, 3), (3, 4)), ((1, 1), (GREAT, GREAT - 1)),
        ):
            self.assertIsNone(factor_of(Table(*one), Table(*other)))

    def test_great_numbers(self):
        self.assertEqual(factor_of(Table(1, 1), Table(GREAT, GREAT)), GREAT)
        self.assertEqual(factor_of(Table(GREAT, 1), Table(GREAT, 1)), 1)


class ReducedTest(unittest.TestCase):
    """Point 75."""

    def assert_reduced(self, table, balls, factor):
        self.assertEqual(greatest_factor(table, balls), factor)
        small, rows = reduced(table, balls)
        self.assertEqual(shown(enlarged(small, factor)), shown(table))
        self.assertEqual([enlarged_ball(small, ball, factor) for ball in rows], balls)
        self.assertEqual(greatest_factor(small, rows), 1)
        again, same = reduced(small, rows)
        self.assertEqual((shown(again), same), (shown(small), rows))

    def test_against_all_factors(self):
        for table in tables_with_pockets():
            for balls in games_on(table, 3):
                numbers = [table.width, table.height, *sum(table.pockets, ())]
                for _, x, y, _, _, minute in balls:
                    numbers += [x, y, minute]
                factors = [k for k in range(1, 7) if all(number % k == 0 for number in numbers)]
                self.assert_reduced(table, balls, factors[-1])
                for factor in (2, 6, 10 ** 28):
                    great = [enlarged_ball(table, ball, factor) for ball in balls]
                    self.assert_reduced(enlarged(table, factor), great, factor * factors[-1])

    def test_each_number_counts(self):
        table, balls = Table(12, 18, [(6, 0), (0, 12)]), [("a", 6, 6, 1, 0, 6), ("b", 0, 0, 0, 1, 0)]
        self.assert_reduced(table, balls, 6)
        for other, factor in (
            (Table(14, 18, table.pockets), 2), (Table(12, 21, table.pockets), 3), (Table(12, 18, [(7, 0)]), 1),
            (Table(12, 18, [(6, 0), (0, 14)]), 2), (Table(12, 18, [(6, 9), (0, 12)]), 3),
        ):
            self.assert_reduced(other, balls, factor)
        for ball, factor in (
            (("a", 7, 6, 1, 0, 6), 1), (("a", 6, 9, 1, 0, 6), 3), (("a", 6, 6, 1, 0, 4), 2),
        ):
            self.assert_reduced(table, [ball, balls[1]], factor)
            self.assert_reduced(table, [balls[1], ball], factor)

    def test_no_pockets_and_no_balls(self):
        self.assert_reduced(Table(8, 6), [], 2)
        self.assert_reduced(Table(7, 7), [], 7)
        self.assert_reduced(Table(GREAT, GREAT), [], GREAT)
        self.assert_reduced(Table(7, 6), [], 1)
        self.assert_reduced(Table(8, 4, [(4, 0)]), [], 4)

    def test_places_and_minutes_of_zero(self):
        balls = [("a", 0, 0, 1, 1, 0), ("b", 0, 0, 0, 1, 0)]
        self.assert_reduced(Table(9, 6, [(0, 0)]), balls, 3)
        self.assert_reduced(Table(9, 6), [("a", 0, 0, 1, 1, 1)], 1)

    def test_figures_of_30_digits(self):
        factor = 10 ** 29 - 3
        balls = [("a", factor, 0, 1, 1, 8 * factor), ("b", 0, factor, -1, 0, 0)]
        self.assert_reduced(Table(9 * factor, 7 * factor, [(factor, 2 * factor)]), balls, factor)
        self.assert_reduced(Table(9 * factor, 7 * factor + 1), [], math.gcd(9 * factor, 7 * factor + 1))

    def test_kinds_and_order(self):
        table = Table(8, 6, [(8, 0), (2, 4)])
        balls = [("z", 2, 4, 1, 1, 0), ("a", 8, 6, -1, 0, 2)]
        found = reduced(table, balls)
        self.assertEqual([type(part) for part in found], [Table, list])
        self.assertIs(type(found), tuple)
        self.assertEqual(found[0].pockets, ((4, 0), (1, 2)))
        self.assertEqual(found[1], [("z", 1, 2, 1, 1, 0), ("a", 4, 3, -1, 0, 1)])
        self.assertEqual(balls, [("z", 2, 4, 1, 1, 0), ("a", 8, 6, -1, 0, 2)])
        self.assertIsNot(reduced(TABLE, [])[1], reduced(TABLE, [])[1])

    def test_lists_that_are_none(self):
        twice = [RED, ("red", 0, 0, 1, 1, 0)]
        many = [("b" + str(k), 0, 0, 1, 1, k) for k in range(13)]
        for ask in (greatest_factor, reduced):
            for balls in (twice, many, [many[0], RED, many[0]], *[[many[0], ball] for ball in NO_BALLS]):
                with self.assertRaises(InvalidBall):
                    ask(TABLE, balls)
        self.assertEqual(greatest_factor(TABLE, many[:12]), 1)


class InterfaceTest(unittest.TestCase):
    def test_examples(self):
        table = Table(4, 3, [(4, 0)])
        great = enlarged(table, 5)
        self.assertEqual(
            (great.pockets, factor_of(table, great), factor_of(great, table)), (((20, 0),), 5, None))
        self.assertEqual(enlarged_ball(table, RED, 5), ("red", 5, 10, -1, 0, 35))
        self.assertEqual(reduced(Table(8, 6), [("red", 2, 4, 1, 1, 0)])[1], [("red", 1, 2, 1, 1, 0)])
        with self.assertRaises(InvalidQuestion):
            enlarged(table, 0)


if __name__ == "__main__":
    unittest.main()
