"""Points 51 to 54, and the class of cushioned.games."""

import unittest

from cushioned.errors import InvalidBall, InvalidQuestion, UnknownName
from cushioned.games import Game
from cushioned.runs import place_at
from cushioned.tables import Table
from cushioned.times import Times

from walks import (
    GREAT, games_on, points, shared_minutes, tables_with_pockets, turns, walked_fall, walked_meetings,
    walked_stays)

TABLE = Table(4, 2, [(4, 2)])
BALLS = [("a", 0, 0, 1, 1, 0), ("b", 4, 0, -1, 1, 0), ("c", 2, 2, 1, 0, 1)]
RED = ("red", 1, 0, 1, 1, 5)
# Each of them is a ball but for one part.
NO_BALLS = [
    (), RED[:5], RED + (0,), ("Red", *RED[1:]), ("", *RED[1:]), ("abcdefghijklm", *RED[1:]),
    ("red", 5, 0, 1, 1, 5), ("red", -1, 0, 1, 1, 5), ("red", 1, 3, 1, 1, 5), ("red", 1, -1, 1, 1, 5),
    ("red", 1, 0, 0, 0, 5), ("red", 1, 0, 2, 1, 5), ("red", 1, 0, 1, -2, 5), ("red", 1, 0, 1, 1, -1),
    ("red", 1, 0, 1, 1, GREAT + 1),
]


def row_of_balls(many):
    return [("b" + str(k), k % 5, k % 3, 1, 1, k) for k in range(many)]


def games_with_stays():
    """Yield games on small tables, the last minute of a walk, and where the balls are in it."""
    for table in tables_with_pockets():
        for balls in games_on(table, 5):
            last = 12 + 2 * turns(table)
            yield Game(table, balls), last, walked_stays(table, balls, last)


class CreationTest(unittest.TestCase):
    """Points 51 and 53."""

    def test_no_balls(self):
        for game in (Game(TABLE), Game(TABLE, []), Game(TABLE, ())):
            self.assertIs(game.table, TABLE)
            self.assertEqual((game.balls, game.names), ((), ()))
            self.assertEqual(game.places(0), [])
            self.assertEqual((game.first_meetings(), game.fall_order()), ([], []))
            self.assertIsNone(game.next_meeting(0))

    def test_twelve_balls_in_their_order(self):
        for balls in (row_of_balls(12), row_of_balls(12)[::-1]):
            game = Game(TABLE, balls)
            self.assertEqual(game.balls, tuple(balls))
            self.assertEqual(game.names, tuple(ball[0] for ball in balls))
            self.assertEqual({type(game.balls), type(game.names), type(game.balls[0])}, {tuple})

    def test_each_fault_by_itself(self):
        for ball in NO_BALLS:
            for balls in ([ball], [*BALLS, ball], [ball, *BALLS]):
                with self.assertRaises(InvalidBall, msg=ball):
                    Game(TABLE, balls)
        for balls in (row_of_balls(13), [*BALLS, BALLS[0]], [RED, ("red", 0, 0, 0, 1, 0)]):
            with self.assertRaises(InvalidBall):
                Game(TABLE, balls)

    def test_the_list_that_is_passed_is_copied(self):
        balls = list(BALLS)
        game = Game(TABLE, balls)
        balls.append(RED)
        balls[0] = ("z", 1, 1, 1, 1, 0)
        self.assertEqual(game.balls, tuple(BALLS))
        self.assertEqual(game.names, ("a", "b", "c"))

    def test_lists_that_are_returned_may_be_changed(self):
        game = Game(TABLE, BALLS)
        for ask in (
            lambda: game.places(2), game.first_meetings, game.fall_order, lambda: game.company("a"),
        ):
            before = ask()
            ask().clear()
            self.assertEqual(ask(), before)
            self.assertTrue(before)
        game.meetings("a", "b").classes.clear()
        self.assertEqual(game.meetings("a", "b").next_from(0), 2)

    def test_ball_and_names(self):
        game = Game(TABLE, BALLS)
        for ball in BALLS:
            self.assertEqual(game.ball(ball[0]), ball)
            self.assertIs(type(game.ball(ball[0])), tuple)

    def test_names_that_no_ball_has(self):
        for game in (Game(TABLE), Game(TABLE, BALLS)):
            for name in ("d", "aa", "A", ""):
                for ask in (
                    game.ball, game.life, game.company, game.without_ball,
                    lambda name: game.stands(name, 0),
                ):
                    with self.assertRaises(UnknownName) as caught:
                        ask(name)
                    self.assertEqual(caught.exception.name, name)


class StaysTest(unittest.TestCase):
    """Point 51."""

    def test_against_a_walk(self):
        for game, last, stays in games_with_stays():
            for ball in game.balls:
                fall = walked_fall(game.table, ball)
                life = (ball[5], None if fall is None else fall[0])
                self.assertEqual(game.life(ball[0]), life)
                for minute in range(0, last + 1, 3):
                    self.assertIs(game.stands(ball[0], minute), minute in stays[ball[0]])
            for minute in range(0, last + 1, 5):
                expected = [
                    (name, stays[name][minute]) for name in game.names if minute in stays[name]]
                self.assertEqual(game.places(minute), expected)

    def test_at_the_minute_of_a_fall(self):
        game = Game(TABLE, [("red", 2, 0, 1, 1, 5), BALLS[1]])
        fall = 7
        self.assertEqual(walked_fall(TABLE, game.ball("red")), (fall, (4, 2)))
        self.assertEqual(game.life("red"), (5, fall))
        for minute, expected in ((4, False), (5, True), (fall - 1, True), (fall, True), (fall + 1, False)):
            self.assertIs(game.stands("red", minute), expected)
            self.assertIs("red" in dict(game.places(minute)), expected)
        self.assertEqual(game.places(fall)[0], ("red", (4, 2)))

    def test_a_ball_that_starts_at_a_pocket(self):
        game = Game(TABLE, [("red", 4, 2, 1, 0, 7)])
        self.assertEqual(game.life("red"), (7, 7))
        self.assertEqual([game.stands("red", minute) for minute in (6, 7, 8)], [False, True, False])
        self.assertEqual([game.places(minute) for minute in (6, 7, 8)], [[], [("red", (4, 2))], []])

    def test_a_ball_that_never_falls(self):
        game = Game(TABLE, [("red", 1, 1, 1, 0, 9)])
        self.assertEqual(game.life("red"), (9, None))
        self.assertEqual([game.stands("red", k) for k in (0, 8, 9, 10 ** 70)], [False, False, True, True])
        self.assertEqual((game.places(8), game.places(9)), ([], [("red", (1, 1))]))

    def test_places_are_in_the_order_of_the_balls(self):
        game = Game(TABLE, BALLS[::-1])
        self.assertEqual(game.places(2), [("c", (3, 2)), ("b", (2, 2)), ("a", (2, 2))])
        self.assertEqual({type(game.places(2)), type(game.places(2)[0][1])}, {list, tuple})


class MeetingsTest(unittest.TestCase):
    """Point 52."""

    def test_against_a_walk(self):
        for game, last, stays in games_with_stays():
            for one in game.names:
                for other in game.names:
                    if one != other:
                        times = game.meetings(one, other)
                        self.assertIs(type(times), Times)
                        expected = shared_minutes(stays[one], stays[other])
                        self.assertEqual([k for k in range(last + 1) if times.holds(k)], expected)
                        self.assertEqual(times.number_to(last), len(expected))

    def assert_meet(self, table, balls, minutes):
        for rows in (balls, balls[::-1]):
            game = Game(table, rows)
            for one, other in (game.names, game.names[::-1]):
                times = game.meetings(one, other)
                self.assertEqual([k for k in range(50) if times.holds(k)], minutes)

    def test_one_of_them_falls(self):
        table = Table(4, 1, [(4, 0)])
        self.assert_meet(table, [("a", 0, 0, 1, 0, 0), ("b", 0, 1, 0, -1, 0)], [])
        self.assert_meet(table, [("a", 0, 0, 1, 0, 0), ("b", 2, 0, 1, 0, 2)], [2, 3, 4])
        self.assert_meet(table, [("a", 0, 0, 1, 0, 0), ("b", 3, 0, -1, 0, 3)], [3])
        self.assert_meet(Table(4, 1, [(2, 1)]), [("a", 0, 0, 1, 0, 0), ("b", 2, 0, 0, 1, 2)], [2])

    def test_both_fall_at_one_minute_into_one_pocket(self):
        table = Table(4, 4, [(2, 2)])
        self.assert_meet(table, [("a", 0, 0, 1, 1, 3), ("b", 2, 0, 0, 1, 3)], [5])
        self.assert_meet(table, [("a", 2, 2, 1, 1, 3), ("b", 2, 2, -1, 0, 3)], [3])
        self.assert_meet(table, [("a", 2, 2, 1, 1, 3), ("b", 2, 1, 0, 1, 2)], [3])

    def test_one_falls_ahead_of_the_first_minute_of_the_other(self):
        table = Table(4, 4, [(2, 2)])
        balls = [("a", 0, 0, 1, 1, 3), ("b", 0, 0, 1, 1, 6)]
        self.assert_meet(table, balls, [])
        game = Game(table, balls)
        self.assertIs(game.meetings("a", "b").is_empty(), True)
        self.assertEqual((game.first_meetings(), game.company("a")), ([], []))
        self.assert_meet(table, [("a", 0, 0, 1, 1, 3), ("b", 2, 2, 1, 1, 5)], [5])

    def test_balls_that_exchange_their_places_do_not_meet(self):
        self.assert_meet(Table(3, 1), [("a", 1, 0, 1, 0, 0), ("b", 2, 0, -1, 0, 0)], [])
        self.assert_meet(Table(1, 1), [("a", 0, 0, 1, 1, 0), ("b", 1, 1, -1, -1, 0)], [])

    def test_errors_in_their_order(self):
        game = Game(TABLE, BALLS)
        for one, other, name in (
            ("x", "y", "x"), ("a", "y", "y"), ("x", "a", "x"), ("x", "x", "x"), ("", "a", ""),
        ):
            with self.assertRaises(UnknownName) as caught:
                game.meetings(one, other)
            self.assertEqual(caught.exception.name, name)
        for name in game.names:
            with self.assertRaises(InvalidQuestion):
                game.meetings(name, name)


class OrderTest(unittest.TestCase):
    """Point 54."""

    def test_against_a_walk(self):
        for game, last, stays in games_with_stays():
            expected = walked_meetings(stays, 0)
            self.assertEqual(game.first_meetings(), expected)
            for name in game.names:
                met = [row for row in expected if name in row[1:]]
                company = [other for other in game.names if any(other in row[1:] for row in met)]
                self.assertEqual(game.company(name), [other for other in company if other != name])
            for minute in (0, 1, 4, 5, 9, 12):
                later = walked_meetings(stays, minute)
                self.assertEqual(game.next_meeting(minute), later[0] if later else None)
            found = [(walked_fall(game.table, ball), ball[0]) for ball in game.balls]
            rows = [(fall[0], at, name) for at, (fall, name) in enumerate(found) if fall is not None]
            self.assertEqual(game.fall_order(), [(minute, name) for minute, _, name in sorted(rows)])

    def test_several_pairs_at_one_minute(self):
        table = Table(4, 4)
        balls = [
            ("z", 0, 0, 1, 1, 0), ("m", 4, 0, -1, 1, 0), ("a", 2, 0, 0, 1, 0), ("k", 0, 4, 1, 0, 0),
            ("b", 4, 4, -1, 0, 0),
        ]
        first = [(2, "z", "m"), (2, "z", "a"), (2, "m", "a"), (2, "k", "b")]
        game = Game(table, balls)
        self.assertEqual(game.first_meetings()[:4], first)
        self.assertEqual(game.next_meeting(0), first[0])
        self.assertEqual(game.next_meeting(2), first[0])
        self.assertGreater(game.next_meeting(3)[0], 2)
        turned = Game(table, balls[::-1])
        self.assertEqual(
            turned.first_meetings()[:4],
            [(2, "b", "k"), (2, "a", "m"), (2, "a", "z"), (2, "m", "z")])
        self.assertEqual(turned.next_meeting(1), (2, "b", "k"))

    def test_several_falls_at_one_minute(self):
        table = Table(4, 4, [(4, 4), (0, 0)])
        balls = [
            ("z", 3, 3, 1, 1, 0), ("b", 4, 4, 1, 0, 1), ("m", 0, 1, 0, -1, 0), ("c", 0, 0, 1, 1, 0),
            ("n", 1, 2, 1, 0, 0), ("a", 4, 3, 0, 1, 0),
        ]
        self.assertEqual(
            Game(table, balls).fall_order(), [(0, "c"), (1, "z"), (1, "b"), (1, "m"), (1, "a")])
        self.assertEqual(
            Game(table, balls[::-1]).fall_order(), [(0, "c"), (1, "a"), (1, "m"), (1, "b"), (1, "z")])

    def test_none_and_empty_lists(self):
        game = Game(Table(4, 2), [("a", 0, 0, 1, 0, 0), ("b", 0, 1, 1, 0, 0)])
        self.assertEqual((game.first_meetings(), game.fall_order()), ([], []))
        self.assertEqual((game.company("a"), game.company("b")), ([], []))
        for minute in (0, 7, 10 ** 70):
            self.assertIsNone(game.next_meeting(minute))
        alone = Game(TABLE, BALLS[:1])
        self.assertEqual((alone.first_meetings(), alone.company("a")), ([], []))
        self.assertIsNone(alone.next_meeting(0))

    def test_no_meeting_behind_the_fall(self):
        game = Game(Table(4, 1, [(4, 0)]), [("a", 0, 0, 1, 0, 0), ("b", 2, 0, 1, 0, 2)])
        self.assertEqual(game.first_meetings(), [(2, "a", "b")])
        self.assertEqual([game.next_meeting(k) for k in (2, 3, 4)], [(k, "a", "b") for k in (2, 3, 4)])
        self.assertIsNone(game.next_meeting(5))


class OtherGamesTest(unittest.TestCase):
    """with_ball and without_ball."""

    def setUp(self):
        self.game = Game(TABLE, BALLS)

    def tearDown(self):
        self.assertEqual(self.game.balls, tuple(BALLS))
        self.assertEqual(self.game.fall_order(), [(3, "c")])

    def test_with_ball(self):
        for ball in (RED, ("ab", 4, 2, 1, 0, 9)):
            other = self.game.with_ball(ball)
            self.assertIs(type(other), Game)
            self.assertIs(other.table, TABLE)
            self.assertEqual(other.balls, (*BALLS, ball))
            self.assertEqual(other.ball(ball[0]), ball)
        self.assertEqual(other.fall_order(), [(3, "c"), (9, "ab")])

    def test_without_ball(self):
        for at, ball in enumerate(BALLS):
            other = self.game.without_ball(ball[0])
            self.assertIs(type(other), Game)
            self.assertIs(other.table, TABLE)
            self.assertEqual(other.balls, tuple(BALLS[:at] + BALLS[at + 1:]))
        self.assertEqual(Game(TABLE, [RED]).without_ball("red").balls, ())

    def test_errors(self):
        for ball in [*NO_BALLS, ("a", *RED[1:]), BALLS[2]]:
            with self.assertRaises(InvalidBall):
                self.game.with_ball(ball)
        full = Game(TABLE, row_of_balls(12))
        with self.assertRaises(InvalidBall):
            full.with_ball(RED)
        self.assertEqual(full.balls, tuple(row_of_balls(12)))
        self.assertEqual(full.without_ball("b3").with_ball(RED).names[-2:], ("b11", "red"))


class GreatTest(unittest.TestCase):
    """Point 1: sides of 30 figures and late minutes."""

    def test_life(self):
        table = Table(GREAT, GREAT, [(GREAT, GREAT)])
        game = Game(table, [("a", 0, 0, 1, 1, GREAT), ("b", 0, 1, 1, 1, 0), ("c", 1, 0, -1, -1, 3)])
        self.assertEqual(game.life("a"), (GREAT, 2 * GREAT))
        self.assertEqual((game.life("b"), game.life("c")), ((0, None), (3, None)))
        self.assertEqual(game.fall_order(), [(2 * GREAT, "a")])
        self.assertIs(game.stands("a", 2 * GREAT), True)
        self.assertIs(game.stands("a", 2 * GREAT + 1), False)
        late = 10 ** 70
        self.assertEqual(
            game.places(late), [(name, place_at(table, game.ball(name), late)) for name in ("b", "c")])

    def test_meetings(self):
        balls = [("a", 0, 0, 1, 1, 0), ("b", GREAT, 0, -1, 1, 0), ("c", GREAT, 0, 0, 1, GREAT)]
        game = Game(Table(GREAT, GREAT), balls)
        times = game.meetings("a", "b")
        self.assertEqual((times.next_from(0), times.next_from(GREAT)), (GREAT // 2, 3 * GREAT // 2))
        self.assertEqual(times.number_to(10 ** 60), GREAT)
        self.assertEqual(game.next_meeting(10 ** 69), (10 ** 69 + GREAT // 2, "a", "b"))
        self.assertEqual(game.first_meetings()[0], (GREAT // 2, "a", "b"))
        falling = Game(Table(GREAT, GREAT, [(0, GREAT)]), balls)
        self.assertEqual(falling.life("b"), (0, GREAT))
        self.assertEqual(falling.meetings("a", "b").number_to(10 ** 70), 1)

    def test_first_meetings_on_coprime_sides(self):
        table = Table(GREAT, GREAT - 1)
        balls = [("a", 3, 9, 1, 1, 5), ("b", 9, 2, 1, -1, GREAT), ("c", 7, 8, 0, -1, 8)]
        game = Game(table, balls)
        for minute, one, other in game.first_meetings():
            places = dict(game.places(minute))
            self.assertEqual(places[one], places[other])
            self.assertGreaterEqual(minute, max(game.life(one)[0], game.life(other)[0]))
        self.assertIn("c", game.company("a"))


class InterfaceTest(unittest.TestCase):
    def test_example(self):
        game = Game(TABLE, BALLS)
        self.assertEqual(
            (game.first_meetings(), game.fall_order(), game.places(2)),
            ([(2, "a", "b")], [(3, "c")], [("a", (2, 2)), ("b", (2, 2)), ("c", (3, 2))]))

    def test_games_are_not_mixed_up(self):
        for point in points(TABLE):
            game = Game(TABLE, [("a", *point, 1, 0, 0)])
            self.assertEqual(game.places(0), [("a", point)])


if __name__ == "__main__":
    unittest.main()
