"""Points 76 to 85, and the functions of cushioned.crowds."""

import unittest

from cushioned.crowds import all_together, crowd_at, half_meetings, most_together, next_half
from cushioned.enlarged import enlarged, enlarged_ball
from cushioned.errors import InvalidBall, InvalidQuestion
from cushioned.runs import place_at
from cushioned.tables import Table
from cushioned.times import Times

from walks import (
    GREAT, balls_on, groups, named, points, small_tables, some_balls, turns, walk, walked_places)

TABLE = Table(3, 2)
A = ("a", 0, 0, 1, 0, 0)
B = ("b", 3, 0, -1, 0, 0)
NO_BALLS = [
    (), A[:5], A + (0,), ("A", *A[1:]), ("a", 4, 0, 1, 0, 0), ("a", 0, 3, 1, 0, 0), ("a", 0, 0, 0, 0, 0),
    ("a", 0, 0, 1, 2, 0), ("a", 0, 0, 1, 0, -1), ("a", 0, 0, 1, 0, GREAT + 1),
]
SMALL = [(1, 1), (1, 2), (2, 1), (2, 2), (3, 2), (3, 3)]


def row_of_balls(many):
    return [("b" + str(k), k % 4, k % 3, 1, 1, k) for k in range(many)]


def crowds_on(table, many):
    """Return lists of so many balls, among them some that run together."""
    balls = some_balls(table)
    lists = [[balls[(k + at * (1 + k % 4)) % len(balls)] for at in range(many)] for k in range(8)]
    # Balls that all come to one point, from where they are run back.
    for minute, point in ((6, points(table)[0]), (8, points(table)[-1])):
        rows = [ball for ball in balls_on(table, 0) if place_at(table, ball, minute) == point]
        lists.append([(rows + balls)[k] for k in range(many)])
    return [named(rows) for rows in lists]


def walked_middles(table, ball, many):
    """Return a dict of the middles, twice as great, behind half of the minutes."""
    rows = walk(table, ball, many + 1)
    return {
        minute: (x + left, y + low)
        for (minute, (x, y), _), (_, (left, low), _) in zip(rows, rows[1:])
    }


def walked_crowds(table, balls):
    """Return all crowds of a walk, as minute, point and the sorted names of the balls that are there."""
    last = max(ball[5] for ball in balls) + turns(table) + 8
    stays = [(ball[0], walked_places(table, ball, last - ball[5] + 1)) for ball in balls]
    crowds = []
    for minute in range(last + 1):
        there = {}
        for name, places in stays:
            if minute in places:
                there.setdefault(places[minute], []).append(name)
        crowds += [(minute, point, tuple(sorted(names))) for point, names in there.items()]
    return crowds


def as_times(classes):
    """Return the Times of classes as point 17 tells them, of which all count from one minute on."""
    start = min([first for first, _ in classes], default=0)
    return Times(start, None, [(first % modulus, modulus) for first, modulus in classes])


class ClassesCase(unittest.TestCase):
    def assert_classes(self, classes, start, last, minutes):
        """Compare at most four classes, as point 17 tells them, with all minutes up to a last one."""
        self.assertIs(type(classes), list)
        self.assertLessEqual(len(classes), 4)
        self.assertEqual(classes, sorted(classes))
        for first, modulus in classes:
            self.assertTrue(start <= first < start + modulus, classes)
        found = [minute for first, modulus in classes for minute in range(first, last + 1, modulus)]
        self.assertEqual(sorted(found), minutes)


class HalvesTest(ClassesCase):
    """Points 76, 77 and 78."""

    def assert_halves(self, table, one, other):
        start = max(one[5], other[5])
        last = start + 2 * turns(table)
        ones, others = [walked_middles(table, ball, last + 1 - ball[5]) for ball in (one, other)]
        minutes = [k for k in range(start, last + 1) if ones[k] == others[k]]
        for pair in ((one, other), (other, one)):
            self.assert_classes(half_meetings(table, *pair), start, last, minutes)
            for minute in (0, 1, start, start + 1, start + 4, start + turns(table)):
                later = [k for k in minutes if k >= minute]
                self.assertEqual(next_half(table, *pair, minute), later[0] if later else None)
        return minutes

    def test_against_a_walk(self):
        for table in small_tables([*SMALL, (4, 3)]):
            for one, other in groups(table, 2):
                self.assert_halves(table, one, other)

    def test_every_pair_of_balls_of_a_small_table(self):
        for table in (Table(1, 1), Table(2, 1)):
            balls = balls_on(table, 0) + balls_on(table, 1)[::7]
            for one in balls[::2]:
                for other in balls:
                    self.assert_halves(table, one, other)

    def test_balls_that_exchange_their_places(self):
        self.assertEqual(half_meetings(TABLE, A, B), [(1, 3)])
        self.assertEqual(self.assert_halves(TABLE, A, B)[:3], [1, 4, 7])
        table = Table(1, 1)
        minutes = self.assert_halves(table, ("a", 0, 0, 1, 1, 0), ("b", 1, 1, -1, -1, 0))
        self.assertEqual(minutes[:3], [0, 1, 2])

    def test_balls_that_meet_at_a_point_alone(self):
        self.assertEqual(half_meetings(Table(4, 1), A, ("b", 4, 0, -1, 0, 0)), [])
        self.assertIsNone(next_half(Table(4, 1), A, ("b", 4, 0, -1, 0, 0), 7))

    def test_ways_that_cross_in_the_middle_between_points(self):
        table = Table(1, 1)
        one, other = ("a", 0, 0, 1, 1, 0), ("b", 0, 1, 1, -1, 0)
        self.assertEqual(self.assert_halves(table, one, other)[:3], [0, 1, 2])
        table = Table(5, 4)
        one, other = ("a", 0, 0, 1, 1, 0), ("b", 0, 3, 1, -1, 0)
        self.assertEqual(self.assert_halves(table, one, other)[0], 1)

    def test_the_same_ball_twice(self):
        for table in small_tables(SMALL):
            for ball in some_balls(table):
                self.assertEqual(half_meetings(table, ball, ball), [(ball[5], 1)])
                self.assertEqual(next_half(table, ball, ball, ball[5] + 9), ball[5] + 9)

    def test_two_balls_of_one_name(self):
        self.assertEqual(half_meetings(TABLE, A, ("a", *B[1:])), [(1, 3)])
        self.assertEqual(next_half(TABLE, A, ("a", *B[1:]), 2), 4)

    def test_a_part_that_moves_and_one_that_does_not(self):
        for table in small_tables(SMALL):
            balls = balls_on(table, 2)
            resting = [ball for ball in balls if ball[3] == 0]
            moving = [ball for ball in balls if ball[3] != 0]
            for one, other in zip(resting, moving):
                self.assertEqual(half_meetings(table, one, other), [])
                self.assertEqual(half_meetings(table, other, one), [])
                self.assertIsNone(next_half(table, one, other, 0))

    def test_from_the_later_of_the_own_minutes_on(self):
        late = ("b", 3, 0, -1, 0, 60)
        self.assertEqual(half_meetings(TABLE, A, late), [(61, 3)])
        self.assertEqual([next_half(TABLE, late, A, k) for k in (0, 61, 62)], [61, 61, 64])

    def test_great_numbers(self):
        table = Table(GREAT - 1, GREAT)
        one, other = ("a", 0, 0, 1, 0, 0), ("b", GREAT - 1, 0, -1, 0, GREAT)
        times = as_times(half_meetings(table, one, other))
        minute = times.next_from(0)
        self.assertTrue(GREAT <= minute < 2 * GREAT - 1)
        self.assertEqual(times.number_to(minute + 7 * (GREAT - 1)), 8)
        places = [place_at(table, ball, k) for k in (minute, minute + 1) for ball in (one, other)]
        self.assertEqual(places[0][0] + places[2][0], places[1][0] + places[3][0])
        late = next_half(table, one, other, 10 ** 70)
        self.assertTrue(10 ** 70 <= late < 10 ** 70 + GREAT)
        self.assertEqual((late - minute) % (GREAT - 1), 0)

    def test_errors(self):
        for ball in NO_BALLS:
            for pair in ((ball, A), (A, ball), (ball, ball)):
                with self.assertRaises(InvalidBall):
                    half_meetings(TABLE, *pair)
                with self.assertRaises(InvalidBall):
                    next_half(TABLE, *pair, 3)


class TogetherTest(ClassesCase):
    """Points 79 and 80."""

    def test_against_a_walk(self):
        met = 0
        for table in small_tables(SMALL):
            for many in range(1, 7):
                for balls in crowds_on(table, many):
                    start = max(ball[5] for ball in balls)
                    last = start + 2 * turns(table)
                    rows = [walked_places(table, ball, last - ball[5] + 1) for ball in balls]
                    minutes = [
                        k for k in range(start, last + 1) if len({places[k] for places in rows}) == 1]
                    for group in (balls, balls[::-1], balls[1:] + balls[:1]):
                        self.assert_classes(all_together(table, group), start, last, minutes)
                    met += bool(minutes) and many > 3
        self.assertGreater(met, 20)

    def test_one_ball(self):
        for minute in (0, 7, GREAT):
            self.assertEqual(all_together(TABLE, [("a", 1, 1, 1, 0, minute)]), [(minute, 1)])

    def test_six_balls_that_meet(self):
        table = Table(4, 4)
        balls = [
            ("a", 0, 0, 1, 1, 0), ("b", 4, 0, -1, 1, 0), ("c", 0, 4, 1, -1, 0), ("d", 4, 4, -1, -1, 0),
            ("e", 2, 0, 0, 1, 0), ("f", 0, 2, 1, 0, 0),
        ]
        start, last = 0, 40
        self.assert_classes(all_together(table, balls), start, last, list(range(2, 41, 4)))
        self.assertEqual(all_together(table, [*balls[:5], ("f", 1, 2, 1, 0, 0)]), [])

    def test_great_tables(self):
        table = Table(GREAT, GREAT)
        balls = [("a", 0, 0, 1, 1, 0), ("b", GREAT, 0, -1, 1, 0), ("c", GREAT // 2, GREAT, 0, -1, GREAT)]
        times = as_times(all_together(table, balls))
        self.assertEqual([times.next_from(k) for k in (0, 2 * GREAT)], [3 * GREAT // 2, 5 * GREAT // 2])
        self.assertEqual(times.number_to(GREAT + 10 ** 60), GREAT)
        self.assertEqual(all_together(table, [*balls[:2], ("c", GREAT // 2, 1, 0, -1, 0)]), [])

    def test_great_tables_by_small_ones(self):
        factor = 10 ** 29
        for table in small_tables(SMALL):
            for balls in crowds_on(table, 3):
                great = [enlarged_ball(table, ball, factor) for ball in balls]
                classes = all_together(enlarged(table, factor), great)
                start = max(ball[5] for ball in balls)
                for minute in range(start, start + turns(table)):
                    together = len({place_at(table, ball, minute) for ball in balls}) == 1
                    found = any((minute * factor - first) % modulus == 0 for first, modulus in classes)
                    self.assertIs(found, together)

    def test_great_coprime_sides(self):
        table = Table(GREAT, GREAT - 1)
        balls = [("a", 3, 9, 1, 1, 5), ("c", 7, 8, 0, -1, 8)]
        classes = all_together(table, balls)
        self.assertGreater(len(classes), 0)
        for first, modulus in classes:
            for minute in (first, first + modulus, first + 10 ** 9 * modulus):
                self.assertEqual(place_at(table, balls[0], minute), place_at(table, balls[1], minute))


class MostTogetherTest(unittest.TestCase):
    """Points 81 and 82."""

    def test_against_a_walk(self):
        for table in small_tables(SMALL):
            for many in range(1, 7):
                for balls in crowds_on(table, many)[::2]:
                    rows = [(-len(names), minute, names, point)
                            for minute, point, names in walked_crowds(table, balls)]
                    _, minute, names, point = min(rows)
                    for group in (balls, balls[::-1]):
                        self.assertEqual(most_together(table, group), (names, minute, point))

    def test_several_crowds_at_one_minute(self):
        table = Table(4, 4)
        balls = [
            ("z", 0, 0, 1, 1, 0), ("m", 4, 0, -1, 1, 0), ("k", 0, 4, 1, 0, 0), ("n", 4, 4, -1, 0, 0),
        ]
        self.assertEqual(most_together(table, balls), (("k", "n"), 2, (2, 4)))
        balls[3] = ("a", *balls[3][1:])
        self.assertEqual(most_together(table, balls), (("a", "k"), 2, (2, 4)))
        balls[0] = ("aa", *balls[0][1:])
        self.assertEqual(most_together(table, balls), (("a", "k"), 2, (2, 4)))
        balls[1] = ("a0", *balls[1][1:])
        balls[3] = ("ab", *balls[3][1:])
        self.assertEqual(most_together(table, balls), (("a0", "aa"), 2, (2, 2)))

    def test_the_earliest_of_several(self):
        table = Table(4, 4)
        balls = [("b", 0, 0, 1, 0, 0), ("c", 2, 0, -1, 0, 0), ("a", 0, 4, 1, 0, 0), ("d", 4, 4, -1, 0, 0)]
        self.assertEqual(most_together(table, balls), (("b", "c"), 1, (1, 0)))

    def test_more_balls_come_ahead_of_earlier_ones(self):
        table = Table(4, 4)
        balls = [
            ("a", 0, 1, 1, 0, 0), ("b", 0, 1, 0, 1, 0), ("x", 0, 0, 1, 1, 50), ("y", 4, 0, -1, 1, 50),
            ("z", 2, 0, 0, 1, 50),
        ]
        self.assertEqual(most_together(table, balls), (("x", "y", "z"), 52, (2, 2)))

    def test_balls_that_never_meet(self):
        self.assertEqual(most_together(TABLE, [B, A]), (("a",), 0, (0, 0)))
        late = ("a", 0, 0, 1, 0, 5)
        self.assertEqual(most_together(TABLE, [late, ("z", 1, 1, 1, 0, 2)]), (("z",), 2, (1, 1)))

    def test_great_numbers(self):
        table = Table(GREAT, GREAT)
        balls = [
            ("a", 0, 0, 1, 1, 0), ("b", GREAT, 0, -1, 1, 0), ("c", GREAT // 2, GREAT, 0, -1, GREAT),
            ("d", 1, 0, 1, 1, 0),
        ]
        half = GREAT // 2
        self.assertEqual(most_together(table, balls), (("a", "b", "c"), GREAT + half, (half, half)))


class CrowdAtTest(unittest.TestCase):
    """Points 81 and 82."""

    def test_against_a_walk(self):
        for table in small_tables(SMALL):
            for balls in crowds_on(table, 6) + crowds_on(table, 2):
                crowds = walked_crowds(table, balls)
                for minute in (0, 1, 2, 3, 6, 7, 8):
                    expected = sorted(
                        [(point, names) for at, point, names in crowds if at == minute])
                    self.assertEqual(crowd_at(table, balls, minute), expected)

    def test_balls_that_are_not_there_yet(self):
        balls = [("b", 0, 0, 1, 0, 3), ("a", 0, 0, 1, 0, 5)]
        self.assertEqual(crowd_at(TABLE, balls, 2), [])
        self.assertEqual(crowd_at(TABLE, balls, 3), [((0, 0), ("b",))])
        self.assertEqual(crowd_at(TABLE, balls, 5), [((0, 0), ("a",)), ((2, 0), ("b",))])

    def test_points_and_names_ascend(self):
        balls = [("z", 1, 0, 1, 0, 0), ("b", 0, 2, 1, 0, 0), ("c", 1, 0, 0, 1, 0), ("b0", 0, 1, 1, 0, 0)]
        self.assertEqual(
            crowd_at(TABLE, balls, 0), [((0, 1), ("b0",)), ((0, 2), ("b",)), ((1, 0), ("c", "z"))])

    def test_late_minutes(self):
        table = Table(GREAT, GREAT - 1)
        ball = ("a", 3, 9, 1, 1, 5)
        for minute in (GREAT, 10 ** 70):
            self.assertEqual(crowd_at(table, [ball], minute), [(place_at(table, ball, minute), ("a",))])


class PocketsTest(unittest.TestCase):
    """Point 83."""

    def test_pockets_change_nothing(self):
        for table in small_tables(SMALL):
            pockets = Table(table.width, table.height, points(table)[:12])
            for balls in crowds_on(table, 4):
                self.assertEqual(all_together(table, balls), all_together(pockets, balls))
                self.assertEqual(most_together(table, balls), most_together(pockets, balls))
                self.assertEqual(crowd_at(table, balls, 9), crowd_at(pockets, balls, 9))
                pair = balls[:2]
                self.assertEqual(half_meetings(table, *pair), half_meetings(pockets, *pair))
                self.assertEqual(next_half(table, *pair, 8), next_half(pockets, *pair, 8))


class TwiceTest(unittest.TestCase):
    """Point 84."""

    def test_halves_are_together_at_odd_minutes(self):
        met = 0
        for table in small_tables([*SMALL, (4, 3)]):
            great = enlarged(table, 2)
            for one, other in groups(table, 2):
                other = ("other", *other[1:])
                start = max(one[5], other[5])
                last = start + turns(table)
                halves = [
                    k for first, modulus in half_meetings(table, one, other)
                    for k in range(first, last + 1, modulus)]
                together = [
                    k for first, modulus in all_together(
                        great, [enlarged_ball(table, ball, 2) for ball in (one, other)])
                    for k in range(first, 2 * last + 2, modulus) if k % 2 == 1]
                self.assertEqual(sorted(together), sorted(2 * minute + 1 for minute in halves))
                met += len(halves)
        self.assertGreater(met, 50)


class ErrorsTest(unittest.TestCase):
    """Point 85."""

    def assert_raises(self, kind, balls):
        for ask in (all_together, most_together, lambda table, balls: crowd_at(table, balls, 3)):
            with self.assertRaises(kind, msg=balls) as caught:
                ask(TABLE, balls)
            self.assertIs(type(caught.exception), kind)

    def test_numbers_of_balls(self):
        for many in (0, 7, 8, 11, 12):
            self.assert_raises(InvalidQuestion, row_of_balls(many))
        for many in (13, 14, 20):
            self.assert_raises(InvalidBall, row_of_balls(many))
        for many in (1, 6):
            self.assertIs(type(all_together(TABLE, row_of_balls(many))), list)
            self.assertEqual(len(most_together(TABLE, row_of_balls(many))), 3)
            self.assertEqual(
                sum(len(names) for _, names in crowd_at(TABLE, row_of_balls(many), 9)), many)

    def test_one_that_is_no_ball(self):
        for ball in NO_BALLS:
            for many in (0, 1, 5, 6, 11, 12, 13):
                self.assert_raises(InvalidBall, [*row_of_balls(many), ball])
                self.assert_raises(InvalidBall, [ball, *row_of_balls(many)])

    def test_two_of_one_name(self):
        for many in (0, 1, 4, 5, 6, 10, 11, 12):
            self.assert_raises(InvalidBall, [A, *row_of_balls(many), ("a", 1, 1, 1, 1, 0)])
            self.assert_raises(InvalidBall, [A, A, *row_of_balls(many)])


class InterfaceTest(unittest.TestCase):
    def test_examples(self):
        self.assertEqual(half_meetings(TABLE, A, B), [(1, 3)])
        self.assertEqual(all_together(TABLE, [A, B]), [])
        self.assertEqual(most_together(TABLE, [A, B]), (("a",), 0, (0, 0)))

    def test_the_list_of_balls_stays(self):
        balls = row_of_balls(4)
        all_together(TABLE, balls).clear()
        most_together(TABLE, balls)
        crowd_at(TABLE, balls, 3).clear()
        self.assertEqual(balls, row_of_balls(4))


if __name__ == "__main__":
    unittest.main()
