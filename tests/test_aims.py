"""Points 43 to 50, and the functions of cushioned.aims."""

import unittest

from cushioned.aims import in_order, meeting_aims, order_aims, pocket_aims
from cushioned.errors import InvalidBall, InvalidQuestion
from cushioned.runs import place_at
from cushioned.tables import Table

from walks import (
    DIRECTIONS, GREAT, points, small_balls, some_balls, tables_with_pockets, turns, walk, walked_fall,
    walked_places)

TABLE = Table(4, 3, [(4, 3)])
RED = ("red", 1, 0, 1, 1, 5)
NO_BALLS = [
    (), RED[:5], RED + (0,), ("Red", 1, 0, 1, 1, 5), ("red", 5, 0, 1, 1, 5), ("red", 1, 4, 1, 1, 5),
    ("red", 1, 0, 0, 0, 5), ("red", 1, 0, 1, 2, 5), ("red", 1, 0, 1, 1, -1),
    ("red", 1, 0, 1, 1, GREAT + 1),
]
NO_POINTS = [(5, 0), (0, 4), (-1, 0), (0, -1), [5, 0], (GREAT, GREAT)]
NO_POCKETS = [(0, 0), (3, 4), (4, 0), *NO_POINTS]
NO_MINUTES = [-1, -GREAT, GREAT + 1, 10 ** 70]
MINUTES = [0, 1, GREAT - 1, GREAT]


def aimed(point, minute):
    return [(("b", *point, *way, minute), way) for way in DIRECTIONS]


def walked_order(table, ball, goals):
    """Return the least minutes at which a walk passes the points in order, or None."""
    rows = walk(table, ball, (len(goals) + 1) * turns(table) + 1)
    minutes, at = [], 0
    for goal in goals:
        while at < len(rows) and rows[at][1] != tuple(goal):
            at += 1
        if at == len(rows):
            return None
        minutes.append(rows[at][0])
        at += 1
    return minutes


def walked_meeting(table, one, other):
    """Return the first minute at which two walks meet, or None."""
    start = max(one[5], other[5])
    ones, others = [walked_places(table, ball, start + turns(table) + 1) for ball in (one, other)]
    minutes = [k for k in sorted(ones) if k in others and ones[k] == others[k]]
    return minutes[0] if minutes else None


class AimsCase(unittest.TestCase):
    def assert_aims(self, found, expected):
        self.assertIs(type(found), list)
        self.assertEqual(found, sorted(expected))
        for aim in found:
            self.assertEqual([type(aim), type(aim[0]), type(aim[1])], [tuple, int, tuple])


class PocketAimsTest(AimsCase):
    """Points 43, 44 and 48."""

    def test_against_a_walk(self):
        for table in tables_with_pockets():
            for point in points(table)[::2]:
                rows = [(walked_fall(table, ball), way) for ball, way in aimed(point, 4)]
                for pocket in table.pockets:
                    expected = [(fall[0], way) for fall, way in rows if fall and fall[1] == pocket]
                    self.assert_aims(pocket_aims(table, point, 4, pocket), expected)

    def test_a_point_that_has_the_pocket(self):
        expected = [(7, way) for way in DIRECTIONS]
        self.assertEqual(pocket_aims(TABLE, (4, 3), 7, (4, 3)), expected)
        table = Table(4, 3, [(4, 3), (0, 0)])
        self.assertEqual(pocket_aims(table, (0, 0), 7, (4, 3)), [])

    def test_ascending_by_minutes_and_then_by_directions(self):
        table = Table(4, 4, [(4, 4)])
        expected = [(4, (1, 1)), (12, (-1, -1))]
        self.assertEqual(pocket_aims(Table(8, 8, [(8, 8)]), (4, 4), 0, (8, 8)), expected)
        self.assertEqual(
            pocket_aims(table, (0, 4), 2, (4, 4)), [(6, (-1, 0)), (6, (1, 0))])

    def test_points_as_lists(self):
        expected = pocket_aims(TABLE, (1, 0), 5, (4, 3))
        self.assertEqual(pocket_aims(TABLE, [1, 0], 5, [4, 3]), expected)
        self.assertEqual(len(expected), 4)

    def test_great_numbers(self):
        table = Table(GREAT, GREAT, [(GREAT, GREAT)])
        self.assertEqual(
            pocket_aims(table, (0, 0), GREAT, (GREAT, GREAT)),
            [(2 * GREAT, way) for way in DIRECTIONS if 0 not in way])

    def test_errors(self):
        for point in NO_POINTS:
            for minute in (5, *NO_MINUTES):
                for pocket in [(4, 3), *NO_POCKETS]:
                    with self.assertRaises(InvalidQuestion):
                        pocket_aims(TABLE, point, minute, pocket)
        for minute in NO_MINUTES:
            with self.assertRaises(InvalidQuestion):
                pocket_aims(TABLE, (1, 0), minute, (4, 3))
        for pocket in NO_POCKETS:
            for minute in (5, -1):
                with self.assertRaises(InvalidQuestion):
                    pocket_aims(TABLE, (1, 0), minute, pocket)
        with self.assertRaises(InvalidQuestion):
            pocket_aims(Table(4, 3), (1, 0), 5, (4, 3))

    def test_minutes(self):
        for minute in MINUTES:
            found = pocket_aims(TABLE, (1, 0), minute, (4, 3))
            self.assertEqual(found[0], (minute + 3, (1, -1)))


class MeetingAimsTest(AimsCase):
    """Points 43, 45 and 48."""

    def test_against_a_walk(self):
        for table in (Table(1, 1), Table(2, 1), Table(2, 2, [(1, 1), (0, 0)]), Table(3, 2), Table(3, 3)):
            for other in some_balls(table)[::2]:
                for point in points(table)[::2]:
                    for minute in (0, 3, 9):
                        rows = [
                            (walked_meeting(table, ball, other), way)
                            for ball, way in aimed(point, minute)]
                        expected = [row for row in rows if row[0] is not None]
                        self.assert_aims(meeting_aims(table, point, minute, other), expected)

    def test_a_ball_that_starts_later_or_earlier(self):
        table = Table(4, 4)
        late = ("late", 0, 0, 1, 0, 100)
        self.assertTrue(all(minute >= 100 for minute, _ in meeting_aims(table, (2, 0), 5, late)))
        self.assertEqual(meeting_aims(table, (0, 0), 92, late)[0], (100, (-1, -1)))
        early = ("early", 0, 0, 1, 0, 5)
        self.assertEqual(
            meeting_aims(table, (4, 0), 9, early), [(9, way) for way in DIRECTIONS])
        self.assertTrue(all(minute >= 100 for minute, _ in meeting_aims(table, (2, 0), 100, early)))

    def test_pockets_are_left_aside(self):
        pockets = Table(4, 3, [(1, 0), (1, 1), (2, 0), (3, 3)])
        self.assertEqual(meeting_aims(pockets, (1, 1), 2, RED), meeting_aims(TABLE, (1, 1), 2, RED))

    def test_a_ball_of_any_name(self):
        expected = meeting_aims(TABLE, (3, 0), 5, RED)
        self.assertGreater(len(expected), 1)
        for name in ("aim", "a", "b", "ball"):
            self.assertEqual(meeting_aims(TABLE, (3, 0), 5, (name, *RED[1:])), expected)

    def test_great_numbers(self):
        table = Table(GREAT, GREAT)
        found = meeting_aims(table, (GREAT, 0), GREAT, ("b", 0, 0, 1, 0, GREAT))
        self.assertEqual(found, [(GREAT + GREAT // 2, (-1, 0)), (GREAT + GREAT // 2, (1, 0))])

    def test_minutes(self):
        for minute in MINUTES:
            # On this colour of points the ball is at such minutes.
            point = [1, 0] if minute % 2 == 1 else [2, 1]
            found = meeting_aims(TABLE, point, minute, RED)
            self.assertGreaterEqual(len(found), 4)
            self.assertGreaterEqual(found[0][0], max(minute, 5))

    def test_errors(self):
        for point in NO_POINTS:
            for minute in (5, *NO_MINUTES):
                for ball in [RED, *NO_BALLS]:
                    with self.assertRaises(InvalidQuestion):
                        meeting_aims(TABLE, point, minute, ball)
        for minute in NO_MINUTES:
            for ball in [RED, *NO_BALLS]:
                with self.assertRaises(InvalidQuestion):
                    meeting_aims(TABLE, (1, 0), minute, ball)
        for ball in NO_BALLS:
            with self.assertRaises(InvalidBall):
                meeting_aims(TABLE, (1, 0), 5, ball)


class InOrderTest(unittest.TestCase):
    """Point 46."""

    def test_against_a_walk(self):
        for table, ball in small_balls([(1, 1), (2, 1), (2, 2), (3, 2)], minutes=(2,)):
            all_points = points(table)
            lists = [[point] for point in all_points]
            lists += [[one, other] for one in all_points[::2] for other in all_points[::3]]
            lists += [[all_points[k], all_points[-k], all_points[k], all_points[0]] for k in range(3)]
            lists += [[ball[1:3]], [ball[1:3]] * 3, [[*ball[1:3]], (0, 0), [*ball[1:3]]]]
            for goals in lists:
                expected = walked_order(table, ball, goals)
                self.assertEqual(in_order(table, ball, goals), expected, (ball, goals))

    def test_no_points(self):
        self.assertEqual(in_order(TABLE, RED, []), [])

    def test_the_point_at_which_the_ball_starts(self):
        self.assertEqual(in_order(TABLE, RED, [(1, 0)]), [5])
        self.assertEqual(in_order(TABLE, RED, [(1, 0), (2, 1)]), [5, 6])
        self.assertEqual(in_order(TABLE, RED, [(1, 0), (1, 0)]), [5, 11])
        self.assertEqual(in_order(TABLE, RED, [(2, 1), (1, 0)]), [6, 11])

    def test_a_point_twice(self):
        minutes = in_order(TABLE, RED, [(2, 1)] * 5)
        self.assertEqual(minutes, [6, 10, 18, 22, 30])
        self.assertEqual([place_at(TABLE, RED, minute) for minute in minutes], [(2, 1)] * 5)

    def test_a_point_that_is_never_passed(self):
        for goals in ([(0, 0)], [(2, 1), (0, 0)], [(0, 0), (2, 1)], [(2, 1), (0, 0), (2, 1)]):
            self.assertIsNone(in_order(TABLE, RED, goals))

    def test_pockets_are_left_aside(self):
        self.assertEqual(in_order(TABLE, RED, [(4, 3), (2, 1)]), [8, 10])

    def test_great_numbers(self):
        table = Table(GREAT, 1)
        ball = ("b", 0, 0, 1, 0, GREAT)
        self.assertEqual(
            in_order(table, ball, [(GREAT, 0), (7, 0), (7, 0), (7, 0)]),
            [2 * GREAT, 3 * GREAT - 7, 3 * GREAT + 7, 5 * GREAT - 7])

    def test_errors(self):
        for ball in NO_BALLS:
            for goals in ([], [(2, 1)], [(5, 0)], [(2, 1), (5, 0)]):
                with self.assertRaises(InvalidBall):
                    in_order(TABLE, ball, goals)
        for point in NO_POINTS:
            # (0, 0) is never passed, but the point behind it is looked at all the same.
            for goals in ([point], [(2, 1), point], [point, (2, 1)], [(0, 0), point]):
                with self.assertRaises(InvalidQuestion):
                    in_order(TABLE, RED, goals)

    def test_the_list_stays(self):
        goals = [[2, 1], (4, 3)]
        in_order(TABLE, RED, goals).clear()
        self.assertEqual(goals, [[2, 1], (4, 3)])


class OrderAimsTest(AimsCase):
    """Points 43, 47 and 48."""

    def test_against_a_walk(self):
        for table in (Table(1, 1), Table(2, 1), Table(2, 2, [(1, 1)]), Table(3, 2)):
            all_points = points(table)
            lists = [[one] for one in all_points] + [
                [one, other] for one in all_points[::2] for other in all_points]
            lists += [[one, one, all_points[0]] for one in all_points]
            for goals in lists:
                for point in all_points[::2]:
                    rows = [(walked_order(table, ball, goals), way) for ball, way in aimed(point, 3)]
                    expected = [(minutes[-1], way) for minutes, way in rows if minutes is not None]
                    self.assert_aims(order_aims(table, point, 3, goals), expected)

    def test_no_points(self):
        for minute in MINUTES:
            expected = [(minute, way) for way in DIRECTIONS]
            self.assertEqual(order_aims(TABLE, (1, 0), minute, []), expected)
            self.assertEqual(order_aims(TABLE, [1, 0], minute, [[1, 0]]), expected)

    def test_the_last_minute_is_told(self):
        self.assertIn((10, (1, 1)), order_aims(TABLE, (1, 0), 5, [(2, 1), (4, 3), (2, 1)]))
        self.assertEqual(order_aims(TABLE, (1, 0), 5, [(2, 1), (0, 0)]), [])

    def test_errors(self):
        for point in NO_POINTS:
            for minute in (5, -1):
                for goals in ([], [(5, 0)]):
                    with self.assertRaises(InvalidQuestion):
                        order_aims(TABLE, point, minute, goals)
        for minute in NO_MINUTES:
            for goals in ([], [(2, 1)], [(5, 0)]):
                with self.assertRaises(InvalidQuestion):
                    order_aims(TABLE, (1, 0), minute, goals)
        for point in NO_POINTS:
            for goals in ([point], [(2, 1), point], [point, (2, 1)], [(0, 0), point]):
                with self.assertRaises(InvalidQuestion):
                    order_aims(TABLE, (1, 0), 5, goals)


class InterfaceTest(unittest.TestCase):
    def test_examples(self):
        self.assertEqual(pocket_aims(TABLE, (1, 0), 5, (4, 3))[0], (8, (1, -1)))
        self.assertEqual(in_order(TABLE, RED, [(2, 1), (4, 3), (2, 1)]), [6, 8, 10])


if __name__ == "__main__":
    unittest.main()
