"""Points 31 to 33 and 37, and the functions of cushioned.meetings."""

import unittest

from cushioned.errors import InvalidBall, InvalidQuestion
from cushioned.meetings import all_meet, at_point, first_meeting, meetings
from cushioned.runs import place_at
from cushioned.tables import Table
from cushioned.times import Times

from walks import GREAT, balls_on, groups, points, small_balls, small_tables, turns, walked_places

TABLE = Table(3, 5)
RED = ("red", 0, 0, 1, 1, 0)
BLUE = ("blue", 2, 0, -1, 1, 0)
LATE = ("late", 3, 3, 0, 1, 40)
NO_BALLS = [
    (), RED[:5], RED + (0,), ("Red", 0, 0, 1, 1, 0), ("red", 4, 0, 1, 1, 0), ("red", 0, 6, 1, 1, 0),
    ("red", 0, 0, 0, 0, 0), ("red", 0, 0, 1, 2, 0), ("red", 0, 0, 1, 1, -1),
    ("red", 0, 0, 1, 1, GREAT + 1),
]
NO_POINTS = [(4, 0), (0, 6), (-1, 0), [0, -1]]


class TimesCase(unittest.TestCase):
    def assert_times(self, found, start, minutes, last, most):
        """Compare a Times with the minutes of a walk that goes from minute 0 to a last one."""
        self.assertIs(type(found), Times)
        self.assertEqual((found.start, found.end), (start, None))
        self.assertLessEqual(len(found.classes), most)
        self.assertEqual([k for k in range(-3, last + 1) if found.holds(k)], minutes)


class AtPointTest(TimesCase):
    """Points 31 and 32."""

    def test_against_a_walk(self):
        for table, ball in small_balls([(1, 1), (1, 2), (2, 2), (3, 2)], minutes=(0, 3)):
            last = ball[5] + turns(table)
            places = walked_places(table, ball, turns(table) + 1)
            for point in points(table):
                minutes = [minute for minute, place in places.items() if place == point]
                self.assert_times(at_point(table, ball, point), ball[5], minutes, last, 4)

    def test_points_as_lists(self):
        self.assertEqual(
            at_point(TABLE, RED, [2, 2]).classes, at_point(TABLE, RED, (2, 2)).classes)

    def test_pockets_are_left_aside(self):
        table = Table(3, 5, [(1, 1), (2, 2)])
        self.assertEqual(at_point(table, RED, (2, 2)).classes, at_point(TABLE, RED, (2, 2)).classes)

    def test_a_point_that_is_never_passed(self):
        times = at_point(TABLE, RED, (1, 2))
        self.assertIs(times.is_empty(), True)
        self.assertEqual((times.start, times.end), (0, None))

    def test_great_numbers(self):
        table = Table(GREAT, GREAT - 1)
        ball = ("b", 5, 7, 1, -1, GREAT)
        times = at_point(table, ball, (11, 13))
        self.assertEqual(times.start, GREAT)
        minute = times.next_from(0)
        self.assertGreaterEqual(minute, GREAT)
        for _ in range(9):
            self.assertEqual(place_at(table, ball, minute), (11, 13))
            minute = times.next_from(minute + 1)
        self.assertEqual(times.number_to(GREAT + 2 * GREAT * (GREAT - 1) - 1), 4)


class MeetingsTest(TimesCase):
    """Points 31 and 32."""

    def test_against_a_walk(self):
        for table in small_tables([(1, 1), (1, 3), (2, 2), (3, 2), (4, 3)]):
            for one, other in groups(table, 2):
                last = 7 + turns(table)
                ones, others = [walked_places(table, ball, last + 1) for ball in (one, other)]
                minutes = [
                    k for k in range(last + 1) if k in ones and k in others and ones[k] == others[k]]
                start = max(one[5], other[5])
                self.assert_times(meetings(table, one, other), start, minutes, last, 4)
                self.assert_times(meetings(table, other, one), start, minutes, last, 4)

    def test_every_pair_of_balls_of_a_small_table(self):
        table = Table(2, 1)
        balls = balls_on(table, 0) + balls_on(table, 3)
        places = [walked_places(table, ball, 3 + turns(table)) for ball in balls]
        last = 2 + turns(table)
        for one, ones in zip(balls, places):
            for other, others in zip(balls, places):
                minutes = [
                    k for k in range(last + 1) if k in ones and k in others and ones[k] == others[k]]
                start = max(one[5], other[5])
                self.assert_times(meetings(table, one, other), start, minutes, last, 4)

    def test_a_ball_and_itself(self):
        times = meetings(TABLE, LATE, LATE)
        self.assertEqual((times.start, times.next_from(0), times.number_to(49)), (40, 40, 10))

    def test_two_balls_of_one_name(self):
        self.assertEqual(
            meetings(TABLE, RED, ("red", *BLUE[1:])).classes, meetings(TABLE, RED, BLUE).classes)

    def test_at_the_own_minute_of_one_of_them(self):
        late = ("late", 3, 3, 1, -1, 3)
        self.assertIs(meetings(TABLE, RED, late).holds(3), True)
        self.assertEqual(first_meeting(TABLE, RED, late), 3)

    def test_balls_that_exchange_their_places_do_not_meet(self):
        one, other = ("a", 0, 0, 1, 0, 0), ("b", 1, 0, -1, 0, 0)
        self.assertIs(meetings(TABLE, one, other).is_empty(), True)
        self.assertEqual(first_meeting(Table(2, 5), one, ("b", 2, 0, -1, 0, 0)), 1)

    def test_great_numbers(self):
        table = Table(GREAT, GREAT)
        one, other = ("a", 0, 0, 1, 1, 0), ("b", GREAT, 0, -1, 1, 0)
        times = meetings(table, one, other)
        self.assertEqual(times.next_from(0), GREAT // 2)
        self.assertEqual(times.next_from(GREAT ** 2 + 1), GREAT ** 2 + GREAT // 2)
        self.assertEqual(times.number_to(10 ** 60 - 1), GREAT)
        sides = Table(GREAT, GREAT - 1)
        rest, run = ("a", 3, 9, 0, 1, 5), ("b", 9, 2, 1, 1, GREAT)
        minute = first_meeting(sides, rest, run)
        self.assertGreaterEqual(minute, GREAT)
        self.assertEqual(place_at(sides, rest, minute), place_at(sides, run, minute))

    def test_no_balls(self):
        for ball in NO_BALLS:
            for pair in ((ball, RED), (RED, ball), (ball, ball)):
                with self.assertRaises(InvalidBall):
                    meetings(TABLE, *pair)
                with self.assertRaises(InvalidBall):
                    first_meeting(TABLE, *pair, minute=-5)


class AllMeetTest(TimesCase):
    """Point 33."""

    def test_against_a_walk(self):
        for table in small_tables([(1, 1), (1, 2), (2, 1), (2, 2), (3, 2)]):
            last = 7 + 2 * turns(table)
            for many in (2, 3):
                for balls in groups(table, many):
                    rows = [walked_places(table, ball, last + 1) for ball in balls]
                    minutes = [
                        k for k in range(last + 1)
                        if all(k in row and row[k] == rows[0].get(k) for row in rows)]
                    start = max(ball[5] for ball in balls)
                    self.assert_times(all_meet(table, balls), start, minutes, last, 16)

    def test_three_balls_that_meet(self):
        table = Table(4, 4)
        balls = [("a", 0, 0, 1, 1, 0), ("b", 4, 0, -1, 1, 0), ("c", 2, 4, 0, -1, 0)]
        self.assertEqual(all_meet(table, balls).next_from(0), 2)
        self.assertEqual(all_meet(table, balls).next_from(3), 6)
        self.assertIs(all_meet(table, [*balls[:2], ("c", 2, 3, 0, -1, 0)]).is_empty(), True)

    def test_one_ball_three_times(self):
        times = all_meet(TABLE, [LATE, LATE, LATE])
        self.assertEqual((times.start, times.number_to(49)), (40, 10))

    def test_two_of_three_meet(self):
        self.assertIs(all_meet(TABLE, [RED, BLUE, ("c", 0, 1, 0, 1, 0)]).is_empty(), True)

    def test_great_numbers(self):
        table = Table(GREAT, GREAT)
        balls = [("a", 0, 0, 1, 1, 0), ("b", GREAT, 0, -1, 1, 0), ("c", GREAT // 2, GREAT, 0, -1, 0)]
        times = all_meet(table, balls)
        self.assertEqual((times.next_from(0), times.next_from(GREAT)), (GREAT // 2, 3 * GREAT // 2))
        self.assertEqual(times.number_to(10 ** 60), GREAT)


class FirstMeetingTest(unittest.TestCase):
    """Point 33."""

    def test_against_a_walk(self):
        for table in small_tables([(1, 1), (2, 2), (3, 2), (4, 3)]):
            for one, other in groups(table, 2):
                last = 20 + 2 * turns(table)
                ones, others = [walked_places(table, ball, last + 1) for ball in (one, other)]
                minutes = [k for k in ones if k in others and ones[k] == others[k]]
                for minute in (-7, 0, 1, 6, 13, 20):
                    later = [k for k in minutes if k >= minute]
                    expected = later[0] if later else None
                    self.assertEqual(first_meeting(table, one, other, minute=minute), expected)
                self.assertEqual(
                    first_meeting(table, one, other), minutes[0] if minutes else None)

    def test_before_at_and_behind_a_meeting(self):
        self.assertEqual(first_meeting(TABLE, RED, BLUE), 1)
        for minute, expected in ((-GREAT, 1), (-1, 1), (0, 1), (1, 1), (2, 4), (3, 4), (4, 4), (5, 7)):
            self.assertEqual(first_meeting(TABLE, RED, BLUE, minute=minute), expected)
        self.assertEqual(first_meeting(TABLE, RED, BLUE, minute=3 * 10 ** 69), 3 * 10 ** 69 + 1)

    def test_never(self):
        other = ("b", 0, 1, 1, 1, 0)
        for minute in (-5, 0, 5, GREAT):
            self.assertIsNone(first_meeting(TABLE, RED, other, minute=minute))

    def test_the_minute_is_a_keyword(self):
        with self.assertRaises(TypeError):
            first_meeting(TABLE, RED, BLUE, 2)


class ErrorsTest(unittest.TestCase):
    """Point 37."""

    def test_balls_come_before_points(self):
        for ball in NO_BALLS:
            for point in [(1, 1), *NO_POINTS]:
                with self.assertRaises(InvalidBall):
                    at_point(TABLE, ball, point)
        for point in NO_POINTS:
            with self.assertRaises(InvalidQuestion):
                at_point(TABLE, RED, point)

    def test_balls_come_before_their_number(self):
        for ball in NO_BALLS:
            for many in (0, 1, 2, 3, 12):
                for balls in ([RED] * many + [ball], [ball] + [RED] * many):
                    with self.assertRaises(InvalidBall):
                        all_meet(TABLE, balls)

    def test_numbers_of_balls(self):
        for many in (0, 1, 4, 5, 12, 13, 14):
            with self.assertRaises(InvalidQuestion):
                all_meet(TABLE, [RED] * many)
            with self.assertRaises(InvalidQuestion):
                all_meet(TABLE, [("b" + str(k), *RED[1:]) for k in range(many)])

    def test_two_balls_of_one_name_are_let(self):
        other = ("red", *BLUE[1:])
        self.assertEqual(first_meeting(TABLE, RED, other), 1)
        self.assertEqual(all_meet(TABLE, [RED, other]).next_from(0), 1)
        self.assertEqual(all_meet(TABLE, [RED, other, RED]).next_from(2), 4)


class InterfaceTest(unittest.TestCase):
    def test_examples(self):
        times = at_point(TABLE, ("red", 0, 0, 1, 1, 2), (2, 2))
        self.assertEqual((times.next_from(0), times.number_to(100)), (4, 14))
        self.assertEqual(first_meeting(TABLE, RED, BLUE, minute=2), 4)

    def test_the_list_of_balls_stays(self):
        balls = [RED, BLUE, LATE]
        all_meet(TABLE, balls)
        self.assertEqual(balls, [RED, BLUE, LATE])


if __name__ == "__main__":
    unittest.main()
