"""Points 86 to 93, and the functions of cushioned.watches."""

import unittest

from cushioned.errors import InvalidBall, InvalidQuestion
from cushioned.meetings import at_point, meetings
from cushioned.runs import place_at
from cushioned.tables import Table
from cushioned.times import Times, both
from cushioned.watches import first_pass, first_slot, is_clear, meets_while, passes, passes_to

from walks import (
    GREAT, balls_on, games_on, groups, points, small_balls, small_tables, tables_with_pockets, turns,
    walked_places)

TABLE = Table(2, 2)
BALLS = [("red", 0, 0, 1, 0, 0), ("blue", 1, 0, 0, 1, 0)]
RED = BALLS[0]
NO_BALLS = [
    (), RED[:5], RED + (0,), ("Red", *RED[1:]), ("red", 3, 0, 1, 0, 0), ("red", 0, 3, 1, 0, 0),
    ("red", 0, 0, 0, 0, 0), ("red", 0, 0, 1, 2, 0), ("red", 0, 0, 1, 0, -1), ("red", 0, 0, 1, 0, GREAT + 1),
]
NO_POINTS = [(3, 0), (0, 3), (-1, 0), [0, -1], (GREAT, GREAT)]
SIXTEEN = [(3 * k, 48) for k in range(16)]
SETS = [
    Times(0, None, [(0, 1)]), Times(4, 30, [(0, 1)]), Times(3, None, [(1, 2)]), Times(0, 25, [(1, 4), (2, 4)]),
    Times(9, 4, [(0, 1)]), Times(0, None, []), Times(0, 40, []), Times(2, None, SIXTEEN),
    Times(0, 50, SIXTEEN), Times(0, 60, [(0, 2), (1, 4), (3, 8), (7, 16)]),
]
WIDE = Times(0, None, [(k, 67) for k in range(64)])


def row_of_balls(many):
    return [("b" + str(k), k % 3, k % 3, 1, 1, k) for k in range(many)]


def shown(times):
    return (times.start, times.end, times.classes)


def outcome(ask):
    """Return the parts of the Times that a call returns, or the name of the error that it raises."""
    try:
        return shown(ask())
    except InvalidQuestion as error:
        return type(error).__name__


def walked_passes(table, balls, point, last):
    """Return the names of the balls, in order, that are at the point at each minute of a walk."""
    stays = [(ball[0], walked_places(table, ball, last - ball[5] + 1)) for ball in balls]
    return [
        [name for name, places in stays if places.get(minute) == point] for minute in range(last + 1)]


def watches(sizes=((1, 1), (2, 1), (2, 2), (3, 2))):
    """Yield small tables with lists of balls and a point, and who is there in a walk."""
    for table in small_tables(list(sizes)):
        for balls in games_on(table, 5) + games_on(table, 2) + [[]]:
            for point in points(table):
                yield table, balls, point, walked_passes(table, balls, point, 60)


class PassesTest(unittest.TestCase):
    """Points 86 and 87."""

    def assert_times(self, found, expected, minutes):
        """Compare a Times with what `both` returns and with the minutes of a walk up to 70."""
        self.assertIs(type(found), Times)
        self.assertEqual(shown(found), shown(expected))
        self.assertEqual([k for k in range(71) if found.holds(k)], minutes)

    def test_passes(self):
        for table, ball in small_balls([(1, 1), (2, 1), (3, 2)], minutes=(0, 5)):
            places = walked_places(table, ball, 71)
            for point in points(table)[::2]:
                for times in SETS:
                    minutes = [k for k in range(71) if places.get(k) == point and times.holds(k)]
                    expected = both(at_point(table, ball, point), times)
                    self.assert_times(passes(table, ball, point, times), expected, minutes)

    def test_meets_while(self):
        for table in small_tables([(1, 1), (2, 1), (3, 2)]):
            for one, other in groups(table, 2):
                ones, others = [walked_places(table, ball, 71) for ball in (one, other)]
                for times in SETS:
                    minutes = [
                        k for k in range(71)
                        if k in ones and k in others and ones[k] == others[k] and times.holds(k)]
                    expected = both(meetings(table, one, other), times)
                    self.assert_times(meets_while(table, one, other, times), expected, minutes)

    def test_sets_of_16_classes_are_taken(self):
        # The periods are prime to 17, so each class of a ball has numbers in common with each of the set.
        times = Times(0, None, [(k, 17) for k in range(16)])
        table, one, other = Table(3, 5), ("red", 1, 1, 1, 1, 0), ("blue", 1, 1, 0, 1, 0)
        ones, others = [walked_places(table, ball, 1020) for ball in (one, other)]
        found = passes(table, one, (2, 2), times)
        self.assertEqual(
            [k for k in range(1020) if found.holds(k)],
            [k for k in range(1020) if ones[k] == (2, 2) and times.holds(k)])
        self.assertEqual(found.number_to(2039), 2 * found.number_to(1019))
        found = meets_while(table, one, other, times)
        self.assertEqual(
            [k for k in range(1020) if found.holds(k)],
            [k for k in range(1020) if ones[k] == others[k] and times.holds(k)])

    def test_sets_with_more_classes_do_as_both_does(self):
        table, one, other = Table(3, 5), ("red", 1, 1, 1, 1, 0), ("blue", 1, 1, 0, 1, 0)
        for times in (WIDE, Times(0, None, [(k, 64) for k in range(64)]), Times(0, 9, [(k, 19) for k in range(17)])):
            for ask, found in (
                (lambda: passes(table, one, (2, 2), times), at_point(table, one, (2, 2))),
                (lambda: passes(table, one, (1, 2), times), at_point(table, one, (1, 2))),
                (lambda: meets_while(table, one, other, times), meetings(table, one, other)),
            ):
                self.assertEqual(outcome(ask), outcome(lambda: both(found, times)))
        self.assertEqual(outcome(lambda: passes(table, one, (2, 2), WIDE)), "InvalidQuestion")

    def test_pockets_are_left_aside(self):
        pockets = Table(2, 2, [(0, 0), (1, 0), (2, 0)])
        for times in SETS:
            self.assertEqual(
                shown(passes(pockets, RED, (2, 0), times)), shown(passes(TABLE, RED, (2, 0), times)))
            self.assertEqual(
                shown(meets_while(pockets, RED, RED, times)), shown(meets_while(TABLE, RED, RED, times)))

    def test_the_set_stays(self):
        times = Times(2, 90, [(1, 4), (2, 4)])
        passes(TABLE, RED, (1, 0), times).classes.clear()
        meets_while(TABLE, RED, RED, times).classes.clear()
        self.assertEqual(shown(times), (2, 90, [(1, 4), (2, 4)]))


class FirstPassTest(unittest.TestCase):
    """Point 88."""

    def test_against_a_walk(self):
        for table, balls, point, there in watches():
            for minute in (0, 1, 2, 5, 9, 12, 20):
                later = [(k, there[k][0]) for k in range(minute, 61) if there[k]]
                expected = later[0] if later else None
                self.assertEqual(first_pass(table, balls, point, minute), expected)

    def test_several_balls_at_one_minute(self):
        balls = [("z", 0, 0, 1, 0, 0), ("m", 2, 0, -1, 0, 0), ("a", 1, 1, 0, -1, 0)]
        for rows in (balls, balls[::-1], balls[1:] + balls[:1]):
            for minute in (0, 1):
                self.assertEqual(first_pass(TABLE, rows, (1, 0), minute), (1, rows[0][0]))

    def test_none(self):
        self.assertIsNone(first_pass(TABLE, [], (1, 0), 0))
        self.assertIsNone(first_pass(TABLE, BALLS, (2, 2), 0))
        self.assertEqual(first_pass(TABLE, BALLS, [2, 0], 0), (2, "red"))

    def test_great_numbers(self):
        table = Table(GREAT, GREAT)
        balls = [("a", 0, 0, 1, 1, GREAT), ("b", 3, 0, 0, 1, 7)]
        point = (GREAT, GREAT)
        self.assertEqual(first_pass(table, balls, point, 0), (2 * GREAT, "a"))
        self.assertEqual(first_pass(table, balls, point, 2 * GREAT + 1), (4 * GREAT, "a"))
        self.assertEqual(first_pass(table, balls, (3, 5), 0), (12, "b"))
        self.assertEqual(first_pass(table, balls, (3, 5), 10 ** 70)[1], "b")


class PassesToTest(unittest.TestCase):
    """Point 89."""

    def test_against_a_walk(self):
        for table, balls, point, there in watches():
            for minute in (0, 1, 4, 5, 30, 60):
                names = sum(there[:minute + 1], [])
                expected = [(ball[0], names.count(ball[0])) for ball in balls]
                self.assertEqual(passes_to(table, balls, point, minute), expected)

    def test_the_minute_is_included(self):
        for minute, expected in ((0, 0), (1, 1), (2, 1), (3, 2), (4, 2), (5, 3)):
            self.assertEqual(passes_to(TABLE, [RED], (1, 0), minute), [("red", expected)])

    def test_in_the_order_of_the_balls(self):
        expected = [("red", 50), ("blue", 25)]
        self.assertEqual(passes_to(TABLE, BALLS, (1, 0), 99), expected)
        self.assertEqual(passes_to(TABLE, BALLS[::-1], (1, 0), 99), expected[::-1])
        self.assertEqual(passes_to(TABLE, [], (1, 0), 99), [])
        self.assertEqual(passes_to(TABLE, BALLS, (2, 2), 10 ** 70), [("red", 0), ("blue", 0)])

    def test_great_numbers(self):
        table = Table(GREAT, GREAT)
        balls = [("a", 0, 0, 1, 1, GREAT), ("b", 3, 0, 0, 1, 7)]
        self.assertEqual(
            passes_to(table, balls, (GREAT, GREAT), 2 * GREAT ** 2), [("a", GREAT), ("b", 0)])
        self.assertEqual(passes_to(table, balls, (3, 0), 7 + 2 * GREAT ** 2), [("a", 0), ("b", GREAT + 1)])


class ClearTest(unittest.TestCase):
    """Points 90 and 92."""

    def test_against_a_walk(self):
        for table, balls, point, there in watches([(1, 1), (2, 1), (3, 2)]):
            for start in (0, 1, 4, 9, 15):
                for end in (0, 1, 4, 8, 9, 10, 15, 16, 40):
                    expected = not any(there[start:end + 1])
                    self.assertIs(is_clear(table, balls, point, start, end), expected)

    def test_an_end_ahead_of_the_start(self):
        for start, end in ((1, 0), (5, 4), (9, 1), (10 ** 70, 0)):
            self.assertIs(is_clear(TABLE, BALLS, (1, 0), start, end), True)

    def test_both_ends_are_included(self):
        self.assertIs(is_clear(TABLE, [RED], (1, 0), 1, 1), False)
        self.assertIs(is_clear(TABLE, [RED], (1, 0), 2, 2), True)
        self.assertIs(is_clear(TABLE, [RED], (1, 0), 2, 3), False)
        self.assertIs(is_clear(TABLE, [RED], (1, 0), 1, 2), False)

    def test_any_end(self):
        for behind in (10000, 10001, GREAT, 10 ** 70):
            self.assertIs(is_clear(TABLE, BALLS, (2, 2), 3, 3 + behind), True)
            self.assertIs(is_clear(TABLE, BALLS, (1, 0), 3, 3 + behind), False)
        self.assertIs(is_clear(TABLE, [], (1, 0), 0, 10 ** 70), True)

    def test_great_numbers(self):
        table = Table(GREAT, GREAT)
        ball = ("a", 0, 0, 1, 1, GREAT)
        corner = (GREAT, GREAT)
        self.assertIs(is_clear(table, [ball], corner, 0, 2 * GREAT - 1), True)
        self.assertIs(is_clear(table, [ball], corner, 0, 2 * GREAT), False)
        self.assertIs(is_clear(table, [ball], corner, 2 * GREAT + 1, 4 * GREAT - 1), True)

    def test_never_at_two_minutes_one_after_another(self):
        for table, ball in small_balls([(1, 1), (1, 2), (2, 1), (3, 2)], minutes=(2,)):
            for point in points(table):
                times = at_point(table, ball, point)
                minutes = [k for k in range(turns(table) + 9) if times.holds(k)]
                self.assertFalse([k for k in minutes if k + 1 in minutes])
                if minutes:
                    self.assertIsNotNone(first_pass(table, [ball], point, 10 ** 70))


class SlotTest(unittest.TestCase):
    """Point 91."""

    def test_against_a_walk(self):
        for table, balls, point, there in watches():
            for start in (0, 1, 5, 12):
                for end in (0, 5, 6, 13, 30, 60):
                    for length in (1, 2, 3, 5, 8, 40):
                        slots = [
                            k for k in range(start, end - length + 2) if not any(there[k:k + length])]
                        expected = slots[0] if slots else None
                        found = first_slot(table, balls, point, start, end, length)
                        self.assertEqual(found, expected)

    def test_an_end_ahead_of_the_start(self):
        for start, end in ((1, 0), (9, 2), (10 ** 70, 0), (10 ** 70, 10 ** 70 - 1)):
            for length in (1, 2, 10 ** 70):
                self.assertIsNone(first_slot(TABLE, [], (1, 0), start, end, length))

    def test_the_last_minute_is_not_behind_the_end(self):
        ball = [("red", 0, 0, 1, 0, 0)]
        table = Table(5, 1)
        self.assertEqual(first_slot(table, ball, (5, 0), 4, 14, 9), 6)
        self.assertIsNone(first_slot(table, ball, (5, 0), 4, 13, 9))
        self.assertIsNone(first_slot(table, ball, (5, 0), 4, 10000, 10))
        self.assertEqual(first_slot(table, ball, (5, 0), 0, 10000, 5), 0)
        self.assertEqual(first_slot(table, ball, (5, 0), 0, 10000, 6), 6)

    def test_an_end_10000_minutes_behind_the_start(self):
        for start in (0, 7, GREAT, 10 ** 70):
            end = start + 10000
            self.assertEqual(first_slot(TABLE, [], (1, 0), start, end, 10001), start)
            self.assertIsNone(first_slot(TABLE, [], (1, 0), start, end, 10002))
            self.assertIsNone(first_slot(TABLE, BALLS, (1, 0), start, end, 2))
            with self.assertRaises(InvalidQuestion):
                first_slot(TABLE, [], (1, 0), start, end + 1, 1)

    def test_a_point_that_is_hardly_ever_clear(self):
        table = Table(1, 1)
        balls = [("a", 0, 0, 1, 0, 0), ("b", 1, 0, 1, 0, 0)]
        self.assertEqual(first_slot(table, [*balls[:1]], (0, 0), 0, 10000, 1), 1)
        self.assertIsNone(first_slot(table, balls, (0, 0), 0, 10000, 1))
        self.assertEqual(first_slot(table, [balls[1], ("c", 0, 0, 1, 0, 9000)], (0, 0), 0, 10000, 1), 0)
        late = [("a", 0, 0, 1, 0, 0), ("b", 0, 0, 1, 1, 1)]
        self.assertIsNone(first_slot(table, late, (0, 0), 0, 10000, 2))

    def test_the_only_slot_is_at_the_end(self):
        table = Table(5000, 1)
        ball = [("red", 0, 0, 1, 0, 0)]
        self.assertEqual(first_slot(table, ball, (0, 0), 0, 10000, 9999), 1)
        self.assertIsNone(first_slot(table, ball, (0, 0), 0, 10000, 10000))
        self.assertEqual(first_slot(table, ball, (5000, 0), 1, 10001, 5001), 5001)

    def test_great_numbers(self):
        table = Table(GREAT, GREAT)
        ball = [("a", 0, 0, 1, 1, GREAT)]
        corner = (GREAT, GREAT)
        start = 2 * GREAT - 3
        self.assertEqual(first_slot(table, ball, corner, start, start + 10000, 3), start)
        self.assertEqual(first_slot(table, ball, corner, start, start + 10000, 4), start + 4)
        self.assertEqual(first_slot(table, ball, corner, start, start + 10000, 9997), start + 4)
        self.assertIsNone(first_slot(table, ball, corner, start, start + 10000, 9998))


class PocketsTest(unittest.TestCase):
    """Point 86."""

    def test_pockets_are_left_aside(self):
        for table in tables_with_pockets()[::4]:
            plain = Table(table.width, table.height)
            for balls in games_on(plain, 3)[::2]:
                for point in points(table)[::3]:
                    for ask, arguments in (
                        (first_pass, (7,)), (passes_to, (90,)), (is_clear, (3, 9)), (first_slot, (3, 50, 3)),
                    ):
                        self.assertEqual(
                            ask(table, balls, point, *arguments), ask(plain, balls, point, *arguments))


class ErrorsTest(unittest.TestCase):
    """Point 93."""

    # The functions of a list of balls, with minutes that are right and some that are not.
    ASKED = [
        (first_pass, (3,), [(-1,), (-GREAT,)]),
        (passes_to, (3,), [(-1,), (-GREAT,)]),
        (is_clear, (3, 9), [(-1, 9), (3, -1), (-2, -1), (-GREAT, 9)]),
        (first_slot, (3, 9, 2), [
            (-1, 9, 2), (3, -1, 2), (-1, -1, 2), (3, 9, 0), (3, 9, -1), (3, 10004, 2), (0, 10001, 1),
            (-1, 9, 0), (3, 10004, 0), (-1, 10000, 2), (3, -1, -5),
        ]),
    ]

    def assert_raises(self, kind, ask, *arguments):
        with self.assertRaises(kind, msg=arguments) as caught:
            ask(*arguments)
        self.assertIs(type(caught.exception), kind)

    def test_lists_of_balls_come_first(self):
        lists = [[ball] for ball in NO_BALLS] + [[*row_of_balls(3), ball] for ball in NO_BALLS]
        lists += [[RED, ("red", 1, 1, 1, 1, 0)], row_of_balls(13)]
        for ask, right, wrong in self.ASKED:
            for balls in lists:
                for point in ((1, 0), *NO_POINTS):
                    for minutes in (right, *wrong):
                        self.assert_raises(InvalidBall, ask, TABLE, balls, point, *minutes)

    def test_points_and_minutes(self):
        for ask, right, wrong in self.ASKED:
            for balls in ([], BALLS, row_of_balls(12)):
                for point in NO_POINTS:
                    for minutes in (right, *wrong):
                        self.assert_raises(InvalidQuestion, ask, TABLE, balls, point, *minutes)
                for minutes in wrong:
                    self.assert_raises(InvalidQuestion, ask, TABLE, balls, (1, 0), *minutes)

    def test_twelve_balls_and_no_balls(self):
        for ask, right, _ in self.ASKED:
            for balls in ([], row_of_balls(12)):
                ask(TABLE, balls, (1, 0), *right)

    def test_an_end_that_is_far_behind_the_start(self):
        for start in (0, 3, GREAT):
            for ask, more in ((is_clear, ()), (first_slot, (1,))):
                ask(TABLE, BALLS, (2, 2), start, start + 10000, *more)
            self.assertIs(is_clear(TABLE, BALLS, (2, 2), start, start + 10001), True)
            for length in (1, 2, 20000):
                self.assert_raises(
                    InvalidQuestion, first_slot, TABLE, BALLS, (2, 2), start, start + 10001, length)

    def test_one_ball_and_a_set(self):
        for times in (*SETS, WIDE):
            for ball in NO_BALLS:
                for point in ((1, 0), *NO_POINTS):
                    self.assert_raises(InvalidBall, passes, TABLE, ball, point, times)
                for pair in ((ball, RED), (RED, ball), (ball, ball)):
                    self.assert_raises(InvalidBall, meets_while, TABLE, *pair, times)
            for point in NO_POINTS:
                self.assert_raises(InvalidQuestion, passes, TABLE, RED, point, times)

    def test_two_balls_of_one_name_are_let(self):
        found = meets_while(TABLE, RED, ("red", *BALLS[1][1:]), SETS[0])
        self.assertEqual(shown(found), shown(meets_while(TABLE, *BALLS, SETS[0])))


class InterfaceTest(unittest.TestCase):
    def test_examples(self):
        self.assertEqual(first_pass(TABLE, BALLS, (1, 0), 1), (1, "red"))
        self.assertEqual(first_slot(TABLE, BALLS, (1, 0), 0, 20, 1), 2)
        self.assertIsNone(first_slot(TABLE, BALLS, (1, 0), 0, 20, 2))

    def test_what_is_passed_stays(self):
        balls, point = balls_on(TABLE, 3)[::9], [1, 1]
        balls = [("b" + str(k), *ball[1:]) for k, ball in enumerate(balls)]
        before = list(balls)
        first_pass(TABLE, balls, point, 3)
        passes_to(TABLE, balls, point, 3).clear()
        is_clear(TABLE, balls, point, 3, 9)
        first_slot(TABLE, balls, point, 3, 90, 2)
        self.assertEqual((balls, point), (before, [1, 1]))


if __name__ == "__main__":
    unittest.main()
