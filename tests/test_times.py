"""Points 28 to 30, and the class and the function of cushioned.times."""

import unittest

from cushioned.errors import InvalidQuestion
from cushioned.times import Times, both

from walks import GREAT, listed

CLASSES = [(3, 8), (1, 4), (6, 8)]
KEPT = [(1, 4), (3, 8), (6, 8)]
NO_CLASSES = [
    (4, 4), (5, 4), (-1, 4), (0, 0), (1, 0), (0, -1), (-3, -2), (), (1,), (0, 4, 8), [], [0], [4, 4],
    [0, 4, 8], ("0", 4), (0, "4"), (None, 4), (0, None), None, 4, "01", "", (False, True), (0, True),
    (False, 4),
]


def shown(times):
    return (times.start, times.end, times.classes)


def minutes_of(start, end, classes, last):
    """Return the minutes up to a last one, one by one."""
    high = last if end is None else min(end, last)
    return [
        minute for minute in range(start, high + 1)
        if any(minute % modulus == remainder for remainder, modulus in classes)
    ]


def many_times():
    """Return pairs of a Times and the list of its minutes up to 100."""
    rows = []
    for classes in ([], [(0, 1)], [(4, 5)], CLASSES, [(0, 2), (1, 2)], [(17, 30), (2, 30)]):
        for start in (0, 1, 7, 40):
            for end in (None, 0, 6, 7, 8, 39, 40, 90):
                times = Times(start, end, classes)
                rows.append((times, minutes_of(start, end, classes, 100)))
    return rows


class FieldsTest(unittest.TestCase):
    """Points 28 and 29: what is kept."""

    def test_fields(self):
        for start in (0, 5, GREAT, GREAT ** 3):
            for end in (None, 0, 5, GREAT + 1):
                self.assertEqual(shown(Times(start, end, CLASSES)), (start, end, KEPT))
        self.assertEqual(shown(Times(3, None, [])), (3, None, []))

    def test_an_end_before_the_start(self):
        times = Times(9, 3, CLASSES)
        self.assertEqual(shown(times), (9, 3, KEPT))
        self.assertIs(times.is_empty(), True)

    def test_classes_are_tuples_in_a_list_and_sorted(self):
        for classes in (CLASSES, [[3, 8], [1, 4], [6, 8]], [[6, 8], (3, 8), [1, 4]], tuple(CLASSES)):
            times = Times(0, None, classes)
            self.assertEqual(times.classes, KEPT)
            self.assertIs(type(times.classes), list)
            self.assertEqual([type(part) for part in times.classes], [tuple] * 3)

    def test_the_modulus_comes_first_in_the_order(self):
        times = Times(0, None, [(2, 6), (0, 6), (1, 2)])
        self.assertEqual(times.classes, [(1, 2), (0, 6), (2, 6)])

    def test_the_list_that_is_passed_is_copied(self):
        classes = [[1, 4], [3, 8]]
        times = Times(0, None, classes)
        classes.append([0, 2])
        classes[0][0] = 2
        self.assertEqual(times.classes, [(1, 4), (3, 8)])
        self.assertEqual(classes, [[2, 4], [3, 8], [0, 2]])

    def test_what_is_passed_stays(self):
        classes = [[3, 8], (1, 4)]
        Times(0, None, classes)
        self.assertEqual(classes, [[3, 8], (1, 4)])

    def test_two_of_them_do_not_share_a_list(self):
        one = Times(0, None, [(0, 4)])
        other = Times(0, None, one.classes)
        one.classes.append((1, 4))
        self.assertEqual(other.classes, [(0, 4)])


class FaultsTest(unittest.TestCase):
    """Point 29."""

    def assert_wrong(self, *parts):
        with self.assertRaises(InvalidQuestion, msg=parts):
            Times(*parts)

    def test_start_and_end(self):
        for end in (None, 0, 7):
            self.assert_wrong(-1, end, CLASSES)
            self.assert_wrong(-GREAT, end, [])
        for start in (0, 7):
            self.assert_wrong(start, -1, CLASSES)
            self.assert_wrong(start, -GREAT, [])

    def test_how_many_classes(self):
        for many in (63, 64):
            classes = [(k, 70) for k in range(many)]
            self.assertEqual(Times(0, None, classes).classes, classes)
        for many in (65, 66, 70):
            self.assert_wrong(0, None, [(k, 70) for k in range(many)])

    def test_no_class(self):
        for part in NO_CLASSES:
            self.assert_wrong(0, None, [part])
            self.assert_wrong(0, 9, [(1, 4), part])
            self.assert_wrong(0, 9, [part, [1, 4]])

    def test_classes_with_a_number_in_common(self):
        for classes in (
            [(1, 4), (1, 4)], [(1, 4), [1, 4]], [(1, 4), (5, 8)], [(5, 8), (1, 4)], [(0, 1), (3, 7)],
            [(2, 3), (1, 4)], [(0, 9), (3, 9), (6, 9), (4, 6), (3, 6)], [(0, 4), (1, 4), (0, 5)],
        ):
            self.assert_wrong(0, None, classes)
        # No minute of it is between the start and the end; the classes alone are looked at.
        self.assert_wrong(3, 4, [(2, 3), (1, 4)])
        self.assert_wrong(0, None, [(7, 2 * GREAT), (7, 2 * GREAT - 2)])

    def test_classes_without_one(self):
        for classes in (
            [(0, 1)], [(0, 2), (1, 2)], [(0, 6), (1, 9)], [(8, 2 * GREAT - 2), (7, 2 * GREAT)],
        ):
            self.assertEqual(Times(0, None, classes).classes, classes)


class MethodsTest(unittest.TestCase):
    """Point 28."""

    def test_holds(self):
        for times, minutes in many_times():
            for minute in range(-20, 101):
                self.assertIs(times.holds(minute), minute in minutes, (shown(times), minute))

    def test_next_from(self):
        for times, minutes in many_times():
            for minute in range(-20, 60):
                later = [k for k in minutes if k >= minute]
                expected = later[0] if later else None
                self.assertEqual(times.next_from(minute), expected, (shown(times), minute))

    def test_number_to(self):
        for times, minutes in many_times():
            for minute in range(-20, 101):
                many = len([k for k in minutes if k <= minute])
                self.assertEqual(times.number_to(minute), many, (shown(times), minute))

    def test_is_empty(self):
        for times, minutes in many_times():
            self.assertIs(times.is_empty(), len(minutes) == 0, shown(times))

    def test_great_numbers(self):
        late = 10 ** 60
        times = Times(5, None, [(7, GREAT)])
        self.assertEqual(times.next_from(late), late + 7)
        self.assertEqual(times.next_from(late + 7), late + 7)
        self.assertEqual(times.next_from(late + 8), late + GREAT + 7)
        self.assertEqual(times.number_to(late), GREAT)
        self.assertEqual(times.number_to(late + 6), GREAT)
        self.assertEqual(times.number_to(late + 7), GREAT + 1)
        self.assertIs(times.holds(late + 7), True)
        self.assertIs(times.holds(late + 8), False)
        self.assertEqual(times.next_from(-late), 7)
        self.assertEqual(times.number_to(-late), 0)
        self.assertIs(times.holds(-late + 7), False)
        self.assertEqual(Times(5, late, [(7, GREAT)]).next_from(late), None)
        self.assertEqual(Times(5, late, [(7, GREAT)]).number_to(2 * late), GREAT)
        self.assertIs(Times(8, GREAT + 6, [(7, GREAT)]).is_empty(), True)
        self.assertIs(Times(8, GREAT + 7, [(7, GREAT)]).is_empty(), False)


class BothTest(unittest.TestCase):
    """Point 30."""

    def test_against_all_minutes(self):
        for one in (Times(0, None, CLASSES), Times(7, 50, [(0, 3), (1, 3)]), Times(9, 5, [(0, 1)])):
            for other in (Times(3, 40, [(0, 3)]), Times(20, None, [(2, 6), (1, 4)]), Times(0, 0, [])):
                before = (shown(one), shown(other), list(one.classes), list(other.classes))
                found = both(one, other)
                self.assertEqual(found.start, max(one.start, other.start))
                for minute in range(-10, 200):
                    expected = one.holds(minute) and other.holds(minute)
                    self.assertIs(found.holds(minute), expected)
                again = both(other, one)
                self.assertEqual(shown(again), shown(found))
                after = (shown(one), shown(other), list(one.classes), list(other.classes))
                self.assertEqual(after, before)

    def test_start_and_end(self):
        for one, other, start, end in (
            ((3, None), (5, None), 5, None), ((5, None), (3, None), 5, None), ((3, 9), (5, None), 5, 9),
            ((3, None), (5, 9), 5, 9), ((3, 9), (5, 7), 5, 7), ((3, 7), (5, 9), 5, 7), ((6, 7), (9, 0), 9, 0),
            ((0, 0), (0, None), 0, 0), ((0, 0), (0, 5), 0, 0),
        ):
            found = both(Times(*one, [(0, 2)]), Times(*other, [(0, 2)]))
            self.assertEqual((found.start, found.end), (start, end))

    def test_classes_are_the_common_ones(self):
        self.assertEqual(
            both(Times(0, None, [(0, 4), (1, 4)]), Times(0, None, [(1, 6), (2, 6)])).classes,
            [(1, 12), (8, 12)])
        self.assertEqual(both(Times(0, None, [(0, 2)]), Times(0, None, [(1, 4)])).classes, [])
        great = both(Times(0, None, [(7, 2 * GREAT)]), Times(0, None, [(7, 2 * GREAT - 2)]))
        self.assertEqual(great.classes, [(7, 2 * GREAT * (GREAT - 1))])

    def test_how_many_common_classes(self):
        eight = Times(0, None, [(k, 9) for k in range(8)])
        other = Times(0, 9, [(k, 17) for k in range(8)])
        self.assertEqual(len(both(eight, other).classes), 64)
        thirteen = Times(0, None, [(k, 13) for k in range(13)])
        five = Times(0, 9, [(k, 5) for k in range(5)])
        for left, right in ((thirteen, five), (five, thirteen)):
            with self.assertRaises(InvalidQuestion):
                both(left, right)
        self.assertEqual(thirteen.classes, [(k, 13) for k in range(13)])
        self.assertEqual(five.classes, [(k, 5) for k in range(5)])

    def test_many_classes_of_which_few_are_common(self):
        many = Times(0, None, [(k, 64) for k in range(64)])
        self.assertEqual(both(many, many).classes, many.classes)
        self.assertIsNot(both(many, many).classes, many.classes)


class InterfaceTest(unittest.TestCase):
    def test_example(self):
        times = both(Times(0, None, [(1, 4), (2, 4)]), Times(3, 40, [(0, 3)]))
        self.assertEqual(shown(times), (3, 40, [(6, 12), (9, 12)]))
        self.assertEqual((times.next_from(10), times.number_to(20)), (18, 3))

    def test_listed_minutes_are_those_of_the_classes(self):
        times = Times(4, None, CLASSES)
        self.assertEqual(listed(times.classes, 4, 100), minutes_of(4, None, CLASSES, 100))


if __name__ == "__main__":
    unittest.main()
