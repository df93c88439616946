"""Points 13 to 24, and the functions of cushioned.runs."""

import unittest

from cushioned.balls import back
from cushioned.errors import InvalidBall, InvalidQuestion
from cushioned.runs import (
    agreed, corner_minutes, first_return, goes_back, heading_at, hits, is_passed, period, place_at,
    point_count, point_minutes)
from cushioned.tables import Table

from walks import (
    DIRECTIONS, GREAT, balls_on, enlarged, great_pairs_of_classes, listed, pairs_of_classes,
    points, small_balls, small_tables, turns, walk)

TABLE = Table(4, 2)
BALL = ("b", 0, 1, 1, 1, 10)
NO_BALLS = [
    (), BALL[:5], BALL + (0,), ("B", 0, 1, 1, 1, 10), ("b", 5, 1, 1, 1, 10), ("b", 0, 3, 1, 1, 10),
    ("b", 0, -1, 1, 1, 10), ("b", 0, 1, 0, 0, 10), ("b", 0, 1, 2, 1, 10), ("b", 0, 1, 1, 1, -1),
    ("b", 0, 1, 1, 1, GREAT + 1),
]
NO_POINTS = [(5, 0), (-1, 0), (0, 3), (0, -1), (GREAT, GREAT), [5, 0]]
EDGES = ("left", "right", "bottom", "top")
NO_EDGES = ("", "Left", "LEFT", "left ", "middle", "x", "up", "down", "lef", "topp")


def is_at(edge, table, place):
    x, y = place
    return {
        "left": x == 0, "right": x == table.width, "bottom": y == 0, "top": y == table.height,
    }[edge]


class PlaceTest(unittest.TestCase):
    """Points 13 to 15."""

    def test_against_a_walk(self):
        for table, ball in small_balls():
            for minute, place, steps in walk(table, ball, turns(table) + 5):
                self.assertEqual(place_at(table, ball, minute), place, (ball, minute))
                self.assertEqual(heading_at(table, ball, minute), steps, (ball, minute))

    def test_towards_an_edge_and_away_from_it(self):
        for start in (0, 3, GREAT):
            towards, away = ("b", 4, 1, 1, 0, start), ("b", 4, 1, -1, 0, start)
            for ball in (towards, away):
                self.assertEqual(heading_at(TABLE, ball, start), (-1, 0))
                self.assertEqual(place_at(TABLE, ball, start + 1), (3, 1))
            corner = ("b", 0, 2, -1, 1, start)
            self.assertEqual(heading_at(TABLE, corner, start), (1, -1))
            self.assertEqual(place_at(TABLE, corner, start), (0, 2))
            self.assertEqual(place_at(TABLE, corner, start + 1), (1, 1))

    def test_ahead_of_the_own_minute(self):
        for minute in range(10):
            self.assertIsNone(place_at(TABLE, BALL, minute))
            self.assertIsNone(heading_at(TABLE, BALL, minute))
        self.assertEqual(place_at(TABLE, BALL, 10), (0, 1))
        self.assertEqual(heading_at(TABLE, BALL, 10), (1, 1))
        late = ("b", 0, 1, 1, 1, GREAT)
        self.assertIsNone(place_at(TABLE, late, GREAT - 1))
        self.assertIsNone(heading_at(TABLE, late, GREAT - 1))
        self.assertEqual(place_at(TABLE, late, GREAT), (0, 1))

    def test_kinds(self):
        for minute in (10, 11, 10 ** 60):
            for found in (place_at(TABLE, BALL, minute), heading_at(TABLE, BALL, minute)):
                self.assertIs(type(found), tuple)
                self.assertEqual([type(part) for part in found], [int, int])

    def test_pockets_do_not_matter(self):
        table = Table(4, 2, [(0, 1), (1, 2), (4, 1)])
        for minute in range(10, 30):
            self.assertEqual(place_at(table, BALL, minute), place_at(TABLE, BALL, minute))

    def test_great_tables_by_small_ones(self):
        factor = 10 ** 29
        for table, ball in small_balls([(1, 2), (4, 3)]):
            great, far = enlarged(table, ball, factor)
            for minute, place, steps in walk(table, ball, 30):
                expected = (place[0] * factor, place[1] * factor)
                self.assertEqual(place_at(great, far, minute * factor), expected)
                self.assertEqual(heading_at(great, far, minute * factor), steps)

    def test_great_tables_and_late_minutes_step_by_step(self):
        table = Table(10 ** 29 + 7, 3 * 10 ** 29 + 1)
        for way in DIRECTIONS:
            ball = ("b", 12345, 10 ** 29, *way, 17)
            for late in (10 ** 59 + 1, 3 * 10 ** 59 + 12345):
                rows = [
                    (place_at(table, ball, late + k), heading_at(table, ball, late + k))
                    for k in range(5)
                ]
                for (place, steps), (later, _) in zip(rows, rows[1:]):
                    self.assertEqual((place[0] + steps[0], place[1] + steps[1]), later)

    def test_great_numbers(self):
        table = Table(GREAT, GREAT - 1)
        ball = ("b", 0, 0, 1, 1, 0)
        # 2 * GREAT divides 10 ** 60; the other side goes into it GREAT + 1 times and leaves 1.
        self.assertEqual(place_at(table, ball, 10 ** 60), (0, GREAT - 2))
        self.assertEqual(heading_at(table, ball, 10 ** 60), (1, -1))
        self.assertEqual(place_at(table, ball, 10 ** 60 + 7), (7, GREAT - 9))
        self.assertEqual(place_at(table, ball, 10 ** 60 - 1), (1, GREAT - 1))
        self.assertEqual(place_at(table, ball, GREAT), (GREAT, GREAT - 2))
        self.assertEqual(heading_at(table, ball, GREAT), (-1, -1))
        self.assertEqual(heading_at(table, ball, GREAT - 1), (1, -1))
        self.assertEqual(heading_at(table, ball, 2 * GREAT - 1), (-1, 1))

    def test_no_balls(self):
        for ball in NO_BALLS:
            for minute in (0, 10, 20):
                with self.assertRaises(InvalidBall):
                    place_at(TABLE, ball, minute)
                with self.assertRaises(InvalidBall):
                    heading_at(TABLE, ball, minute)


class PeriodTest(unittest.TestCase):
    """Point 16."""

    def test_against_a_walk(self):
        for table, ball in small_balls():
            rows = [row[1:] for row in walk(table, ball, turns(table) + 1)]
            self.assertEqual(period(table, ball), rows.index(rows[0], 1), (ball, table.width))

    def test_great_tables(self):
        table = Table(GREAT, GREAT // 4)
        self.assertEqual(period(table, ("b", 1, 1, 1, 1, 0)), 2 * GREAT)
        self.assertEqual(period(table, ("b", 1, 1, 0, -1, 0)), GREAT // 2)
        self.assertEqual(period(table, ("b", 1, 1, -1, 0, 0)), 2 * GREAT)
        coprime = Table(GREAT, GREAT - 1)
        self.assertEqual(period(coprime, ("b", 1, 1, 1, -1, 9)), 2 * GREAT * (GREAT - 1))

    def test_no_balls(self):
        for ball in NO_BALLS:
            with self.assertRaises(InvalidBall):
                period(TABLE, ball)


class PointMinutesTest(unittest.TestCase):
    """Points 17 and 18."""

    def assert_classes(self, table, ball, point, classes):
        self.assertIs(type(classes), list)
        self.assertLessEqual(len(classes), 4)
        self.assertEqual(classes, sorted(classes))
        for first, modulus in classes:
            self.assertEqual(modulus, period(table, ball))
            self.assertTrue(ball[5] <= first < ball[5] + modulus)
            self.assertIs(type(first), int)
        self.assertEqual([type(part) for part in classes], [tuple] * len(classes))

    def test_against_a_walk(self):
        for table, ball in small_balls():
            many = 2 * period(table, ball)
            rows = walk(table, ball, many)
            for point in points(table):
                classes = point_minutes(table, ball, point)
                self.assert_classes(table, ball, point, classes)
                expected = [minute for minute, place, _ in rows if place == point]
                last = ball[5] + many - 1
                self.assertEqual(listed(classes, ball[5], last), expected, (ball, point))
                self.assertIs(is_passed(table, ball, point), len(expected) > 0)

    def test_points_as_lists(self):
        self.assertEqual(point_minutes(TABLE, BALL, [2, 1]), [(12, 8), (16, 8)])
        self.assertIs(is_passed(TABLE, BALL, [2, 1]), True)
        self.assertIs(is_passed(TABLE, BALL, [1, 1]), False)
        self.assertEqual(point_minutes(TABLE, BALL, [1, 1]), [])

    def test_great_tables_by_small_ones(self):
        factor = 10 ** 29
        for table, ball in small_balls([(4, 3)]):
            great, far = enlarged(table, ball, factor)
            for x, y in points(table):
                expected = [
                    (first * factor, modulus * factor)
                    for first, modulus in point_minutes(table, ball, (x, y))
                ]
                self.assertEqual(point_minutes(great, far, (x * factor, y * factor)), expected)
            self.assertEqual(point_minutes(great, far, (1, factor + 3)), [])

    def test_great_coprime_sides(self):
        table = Table(GREAT, GREAT - 1)
        ball = ("b", 5, 7, 1, -1, GREAT)
        classes = point_minutes(table, ball, (11, 13))
        self.assert_classes(table, ball, (11, 13), classes)
        for first, modulus in classes:
            for times in (0, 1, 10 ** 9):
                self.assertEqual(place_at(table, ball, first + times * modulus), (11, 13))
        # x and y are both odd or both even at every minute, or one of them is odd at every one:
        # all four pairs of phases agree modulo 2.
        self.assertEqual(len(classes), 4)
        self.assertEqual(point_minutes(table, ball, (11, 12)), [])

    def test_no_balls_and_no_points(self):
        for ask in (point_minutes, is_passed):
            for ball in NO_BALLS:
                for point in [(1, 1), *NO_POINTS]:
                    with self.assertRaises(InvalidBall):
                        ask(TABLE, ball, point)
            for point in NO_POINTS:
                with self.assertRaises(InvalidQuestion):
                    ask(TABLE, BALL, point)


class FirstReturnTest(unittest.TestCase):
    def test_against_a_walk(self):
        for table, ball in small_balls():
            rows = walk(table, ball, turns(table) + 1)
            expected = [minute for minute, place, _ in rows[1:] if place == ball[1:3]][0]
            self.assertEqual(first_return(table, ball), expected, ball)

    def test_one_moving_part(self):
        table = Table(10, 3)
        self.assertEqual(first_return(table, ("b", 4, 1, 1, 0, 7)), 7 + 12)
        self.assertEqual(first_return(table, ("b", 4, 1, -1, 0, 7)), 7 + 8)
        for step in (1, -1):
            self.assertEqual(first_return(table, ("b", 10, 1, step, 0, 7)), 7 + 20)
            self.assertEqual(first_return(table, ("b", 0, 1, step, 0, 7)), 7 + 20)
            self.assertEqual(first_return(table, ("b", 5, 1, step, 0, 7)), 7 + 10)
            self.assertEqual(first_return(table, ("b", 5, 3, 0, step, 0)), 6)

    def test_great_tables(self):
        table = Table(GREAT, GREAT)
        self.assertEqual(first_return(table, ("b", 3, 3, 1, 1, GREAT)), GREAT + 2 * GREAT - 6)
        self.assertEqual(first_return(table, ("b", 0, 0, 1, 1, 0)), 2 * GREAT)

    def test_no_balls(self):
        for ball in NO_BALLS:
            with self.assertRaises(InvalidBall):
                first_return(TABLE, ball)


class CornerTest(unittest.TestCase):
    """Point 17, and the corners of point 20."""

    def test_against_a_walk(self):
        for table, ball in small_balls():
            rows = walk(table, ball, turns(table))
            expected = [minute for minute, place, _ in rows if place in table.corners()]
            found = corner_minutes(table, ball)
            if not expected:
                self.assertIsNone(found, ball)
                continue
            self.assertIs(type(found), tuple)
            first, modulus = found
            self.assertEqual(first, expected[0])
            self.assertLess(first, ball[5] + modulus)
            self.assertEqual(listed([found], ball[5], ball[5] + turns(table) - 1), expected, ball)

    def test_none_and_some(self):
        self.assertIsNone(corner_minutes(TABLE, BALL))
        self.assertIsNone(corner_minutes(TABLE, ("b", 0, 1, 1, 0, 0)))
        self.assertEqual(corner_minutes(TABLE, ("b", 1, 0, 1, 0, 6)), (9, 4))
        self.assertEqual(corner_minutes(TABLE, ("b", 4, 0, 0, 1, 6)), (6, 2))
        self.assertEqual(corner_minutes(TABLE, ("b", 4, 2, 1, 1, 6)), (6, 4))

    def test_great_tables(self):
        table = Table(GREAT, GREAT - 1)
        self.assertEqual(corner_minutes(table, ("b", 1, 1, -1, -1, 5)), (6, GREAT * (GREAT - 1)))
        first, modulus = corner_minutes(table, ("b", 7, 3, 1, 1, 5))
        self.assertEqual(modulus, GREAT * (GREAT - 1))
        self.assertTrue(5 <= first < 5 + modulus)
        self.assertIn(place_at(table, ("b", 7, 3, 1, 1, 5), first), table.corners())
        self.assertIsNone(corner_minutes(Table(GREAT, GREAT), ("b", 7, 3, 1, 1, 5)))

    def test_no_balls(self):
        for ball in NO_BALLS:
            with self.assertRaises(InvalidBall):
                corner_minutes(TABLE, ball)


class AgreedTest(unittest.TestCase):
    """Point 19."""

    def test_against_all_numbers(self):
        for one, other, expected in pairs_of_classes():
            self.assertEqual(agreed(one, other), expected)

    def test_great_numbers(self):
        for one, other, expected in great_pairs_of_classes(123456789 ** 7):
            self.assertEqual(agreed(one, other), expected)
            self.assertEqual(agreed(other, one), expected)
        self.assertIsNone(agreed((0, GREAT), (1, 10 ** 29 - 4)))


class GoesBackTest(unittest.TestCase):
    """Points 20 and 21."""

    def test_against_a_walk(self):
        for table, ball in small_balls():
            places = [place for _, place, _ in walk(table, ball, turns(table) + 2)]
            back_there = [k for k in range(2, len(places)) if places[k] == places[k - 2]]
            self.assertIs(goes_back(table, ball), len(back_there) > 0, ball)

    def test_point_count_against_a_walk(self):
        for table, ball in small_balls(minutes=(0,)):
            places = {place for _, place, _ in walk(table, ball, turns(table))}
            self.assertEqual(point_count(table, ball), len(places), (ball, table.width))

    def test_great_tables(self):
        square, long = Table(GREAT, GREAT), Table(GREAT, GREAT - 1)
        self.assertEqual(point_count(square, ("b", 0, 0, 1, 1, 0)), GREAT + 1)
        self.assertEqual(point_count(square, ("b", 1, 0, 1, 1, 0)), 2 * GREAT)
        self.assertIs(goes_back(square, ("b", 0, 0, 1, 1, 0)), True)
        self.assertIs(goes_back(square, ("b", 1, 0, 1, 1, 0)), False)
        self.assertIs(goes_back(square, ("b", 1, 0, 0, 1, 0)), True)
        self.assertEqual(
            point_count(long, ("b", 1, 0, 1, 1, 0)),
            GREAT * (GREAT - 1) + 1 - (GREAT - 1) * (GREAT - 2) // 2)
        self.assertEqual(point_count(long, ("b", 1, 0, 1, 0, 0)), GREAT + 1)
        self.assertEqual(point_count(long, ("b", 1, 0, 0, 1, 0)), GREAT)

    def test_no_balls(self):
        for ball in NO_BALLS:
            for ask in (goes_back, point_count):
                with self.assertRaises(InvalidBall):
                    ask(TABLE, ball)


class HitsTest(unittest.TestCase):
    """Point 22."""

    def test_against_a_walk(self):
        for table, ball in small_balls([(1, 1), (1, 3), (2, 2), (4, 3)]):
            rows = walk(table, ball, 30)
            for edge in EDGES:
                many = 0
                for minute, place, _ in rows:
                    many = many + is_at(edge, table, place)
                    self.assertEqual(hits(table, ball, edge, minute), many, (ball, edge, minute))

    def test_up_to_an_earlier_minute(self):
        ball = ("b", 0, 0, 1, 1, 10)
        for edge in EDGES:
            for until in (0, 1, 8, 9):
                self.assertEqual(hits(TABLE, ball, edge, until), 0)
        for edge, many in (("left", 1), ("bottom", 1), ("right", 0), ("top", 0)):
            self.assertEqual(hits(TABLE, ball, edge, 10), many)

    def test_a_part_that_does_not_move(self):
        ball = ("b", 1, 2, 1, 0, 10)
        for until, many in ((9, 0), (10, 1), (11, 2), (10 ** 70, 10 ** 70 - 9)):
            self.assertEqual(hits(TABLE, ball, "top", until), many)
            self.assertEqual(hits(TABLE, ball, "bottom", until), 0)

    def test_very_late(self):
        late = 10 ** 70
        ball = ("b", 0, 0, 1, 1, 0)
        self.assertEqual(hits(TABLE, ball, "left", late), late // 8 + 1)
        self.assertEqual(hits(TABLE, ball, "right", late), (late + 4) // 8)
        self.assertEqual(hits(TABLE, ball, "bottom", late), late // 4 + 1)
        great = Table(GREAT, GREAT)
        self.assertEqual(hits(great, ball, "left", late), 5 * 10 ** 39 + 1)
        self.assertEqual(hits(great, ball, "top", late), 5 * 10 ** 39)

    def test_errors(self):
        for ball in NO_BALLS:
            for edge in ("left", "middle"):
                with self.assertRaises(InvalidBall):
                    hits(TABLE, ball, edge, 20)
        for edge in NO_EDGES:
            for until in (0, 20):
                with self.assertRaises(InvalidQuestion):
                    hits(TABLE, BALL, edge, until)


class OtherWayTest(unittest.TestCase):
    """Point 23."""

    def test_the_ball_that_runs_back_comes_to_the_same_points(self):
        for table in small_tables():
            for ball in balls_on(table, 3):
                other = back(table, ball)
                for point in points(table):
                    self.assertEqual(is_passed(table, ball, point), is_passed(table, other, point))
                self.assertEqual(point_count(table, ball), point_count(table, other))


class InterfaceTest(unittest.TestCase):
    def test_examples(self):
        self.assertEqual(place_at(TABLE, BALL, 11), (1, 2))
        self.assertEqual(heading_at(TABLE, BALL, 11), (1, -1))
        self.assertEqual(place_at(TABLE, BALL, 10 ** 20), (2, 1))
        self.assertEqual(point_count(TABLE, BALL), 7)
        self.assertEqual(point_minutes(TABLE, BALL, (2, 1)), [(12, 8), (16, 8)])

    def test_a_returned_list_is_a_new_list(self):
        point_minutes(TABLE, BALL, (2, 1)).clear()
        self.assertEqual(point_minutes(TABLE, BALL, (2, 1)), [(12, 8), (16, 8)])


if __name__ == "__main__":
    unittest.main()
