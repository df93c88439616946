"""Points 25 to 27, and the functions of cushioned.congruences."""

import itertools
import math
import unittest

from cushioned.congruences import chinese, meeting_classes, point_classes, solved

from walks import GREAT, great_pairs_of_classes, listed, pairs_of_classes


def folded(size, place):
    """Return the place from 0 to the size that an unfolded place is, by folding it edge by edge."""
    while not 0 <= place <= size:
        place = -place if place < 0 else 2 * size - place
    return place


class ChineseTest(unittest.TestCase):
    """Point 25."""

    def test_against_all_numbers(self):
        for one, other, expected in pairs_of_classes():
            self.assertEqual(chinese(one, other), expected)
            divisor = math.gcd(one[1], other[1])
            self.assertEqual(expected is None, (one[0] - other[0]) % divisor != 0)

    def test_the_order_makes_no_difference(self):
        for one, other, _ in pairs_of_classes():
            self.assertEqual(chinese(one, other), chinese(other, one))

    def test_all_integers(self):
        self.assertEqual(chinese((0, 1), (0, 1)), (0, 1))
        self.assertEqual(chinese((0, 1), (5, 7)), (5, 7))
        self.assertEqual(chinese((5, 7), (0, 1)), (5, 7))

    def test_the_same_class(self):
        self.assertEqual(chinese((5, 7), (5, 7)), (5, 7))
        self.assertIsNone(chinese((5, 7), (6, 7)))

    def test_great_numbers(self):
        for one, other, expected in great_pairs_of_classes(987654321 ** 7):
            self.assertEqual(chinese(one, other), expected)
            self.assertEqual(chinese(other, one), expected)
            near = chinese(one, ((other[0] + 1) % other[1], other[1]))
            self.assertEqual(near is None, math.gcd(one[1], other[1]) > 1)

    def test_kinds(self):
        found = chinese((1, 4), (3, 6))
        self.assertIs(type(found), tuple)
        self.assertEqual([type(part) for part in found], [int, int])


class SolvedTest(unittest.TestCase):
    """Point 26."""

    def expected_modulus(self, factor, modulus):
        if factor == 0:
            return 1
        return modulus // math.gcd(factor, modulus)

    def test_against_all_numbers(self):
        for factor in (-2, -1, 0, 1, 2):
            for modulus in range(1, 17):
                for right in range(-2 * modulus - 1, 2 * modulus + 2):
                    numbers = [
                        t for t in range(-modulus, modulus) if (factor * t - right) % modulus == 0]
                    found = solved(factor, right, modulus)
                    self.assertIs(type(found), list)
                    self.assertLessEqual(len(found), 1)
                    self.assertEqual(listed(found, -modulus, modulus - 1), numbers)
                    for remainder, divisor in found:
                        self.assertEqual(divisor, self.expected_modulus(factor, modulus))
                        self.assertTrue(0 <= remainder < divisor)

    def test_small_moduli(self):
        for factor in (-2, -1, 0, 1, 2):
            self.assertEqual(solved(factor, 0, 1), [(0, 1)])
            self.assertEqual(solved(factor, -3, 1), [(0, 1)])
        for factor in (-1, 1):
            self.assertEqual(solved(factor, 0, 2), [(0, 2)])
            self.assertEqual(solved(factor, -3, 2), [(1, 2)])
        for factor in (-2, 0, 2):
            self.assertEqual(solved(factor, -4, 2), [(0, 1)])
            self.assertEqual(solved(factor, -3, 2), [])

    def test_great_numbers(self):
        even, odd, right = 2 * GREAT, 2 * GREAT + 1, 123456789 ** 8
        for factor in (-2, -1, 1, 2):
            for modulus, divisor in ((odd, odd), (even, even // math.gcd(factor, even))):
                for number in (right + 1, -right - 1):
                    found = solved(factor, number, modulus)
                    self.assertEqual([part[1] for part in found], [divisor])
                    self.assertEqual((factor * found[0][0] - number) % modulus, 0)
                    self.assertTrue(0 <= found[0][0] < divisor)
        self.assertEqual(solved(2, right, even), [])
        self.assertEqual(solved(-2, right, even), [])
        self.assertEqual(solved(0, right * even, even), [(0, 1)])
        self.assertEqual(solved(0, right * even + 1, even), [])


class PartsTest(unittest.TestCase):
    """Point 27."""

    def assert_classes(self, found, size, expected, low):
        """Compare with the minutes of two periods that were tried one by one."""
        self.assertIs(type(found), list)
        self.assertEqual(listed(found, low, low + 4 * size - 1), expected)
        self.assertEqual(found, sorted(found, key=lambda part: (part[1], part[0])))
        for part in found:
            self.assertIs(type(part), tuple)
            self.assertTrue(0 <= part[0] < part[1])
        if len(expected) == 4 * size:
            self.assertEqual(found, [(0, 1)])

    def test_point_classes_against_all_minutes(self):
        for size in (1, 2, 3, 4, 7):
            for at in [*range(-2 * size - 1, 3 * size + 2), 1000 * size + 1, -999 * size - 1]:
                places = {
                    step: [folded(size, (at + step * t) % (2 * size)) for t in range(-size, 3 * size)]
                    for step in (-1, 0, 1)
                }
                for step, goal in itertools.product((-1, 0, 1), range(size + 1)):
                    expected = [t - size for t in range(4 * size) if places[step][t] == goal]
                    found = point_classes(size, at, step, goal)
                    self.assert_classes(found, size, expected, -size)
                    for _, modulus in found:
                        self.assertEqual(modulus, 1 if step == 0 else 2 * size)

    def test_meeting_classes_against_all_minutes(self):
        for size in (1, 2, 3, 5):
            where = [*range(-size - 1, 2 * size + 2), 100 * size + 1, -99 * size - 1]
            runs = {
                (at, step): [folded(size, at + step * t) for t in range(4 * size)]
                for at in where for step in (-1, 0, 1)
            }
            for (at, step), (other, move) in itertools.product(runs, repeat=2):
                ones, others = runs[at, step], runs[other, move]
                expected = [t for t in range(4 * size) if ones[t] == others[t]]
                self.assert_classes(meeting_classes(size, at, step, other, move), size, expected, 0)

    def test_moduli_of_meeting_classes(self):
        for at, other in itertools.product(range(-3, 9), repeat=2):
            for step, move in itertools.product((-1, 0, 1), repeat=2):
                for _, modulus in meeting_classes(5, at, step, other, move):
                    many = abs(step) + abs(move)
                    self.assertIn(modulus, {0: (1,), 1: (10,), 2: (1, 5)}[many])

    def test_edges(self):
        self.assertEqual(point_classes(5, 2, 1, 0), [(8, 10)])
        self.assertEqual(point_classes(5, 2, -1, 5), [(7, 10)])
        self.assertEqual(point_classes(5, 0, 0, 0), [(0, 1)])
        self.assertEqual(point_classes(5, 5, 0, 5), [(0, 1)])
        self.assertEqual(point_classes(5, -5, 0, 5), [(0, 1)])
        self.assertEqual(point_classes(5, 13, 0, 3), [(0, 1)])
        self.assertEqual(point_classes(5, 3, 0, 5), [])

    def test_sorted_by_modulus_and_then_by_remainder(self):
        self.assertEqual(point_classes(5, 2, 1, 1), [(7, 10), (9, 10)])
        self.assertEqual(point_classes(5, 2, 1, 3), [(1, 10), (5, 10)])
        self.assertEqual(meeting_classes(5, 3, 0, 2, 1), [(1, 10), (5, 10)])

    def test_the_class_of_all_minutes_alone(self):
        self.assertEqual(meeting_classes(5, 2, 1, 2, 1), [(0, 1)])
        self.assertEqual(meeting_classes(5, 2, 1, -2, -1), [(0, 1)])
        self.assertEqual(meeting_classes(5, 2, 1, 12, 1), [(0, 1)])
        self.assertEqual(meeting_classes(1, 0, 1, 1, 1), [])
        self.assertEqual(meeting_classes(1, 0, 1, 2, 1), [(0, 1)])

    def test_great_numbers(self):
        far = -GREAT ** 2 + 3
        self.assertEqual(point_classes(GREAT, 3, 1, 5), [(2, 2 * GREAT), (2 * GREAT - 8, 2 * GREAT)])
        self.assertEqual(point_classes(GREAT, far, 1, 5), [(2, 2 * GREAT), (2 * GREAT - 8, 2 * GREAT)])
        self.assertEqual(point_classes(GREAT, far, -1, GREAT), [(GREAT + 3, 2 * GREAT)])
        self.assertEqual(meeting_classes(GREAT, 0, 1, 10, -1), [(5, GREAT)])
        self.assertEqual(meeting_classes(GREAT, 0, 1, 11, -1), [])


class InterfaceTest(unittest.TestCase):
    def test_examples(self):
        self.assertEqual(chinese((1, 4), (3, 6)), (9, 12))
        self.assertIsNone(chinese((0, 4), (3, 6)))
        self.assertEqual(solved(2, 3, 5), [(4, 5)])
        self.assertEqual(solved(-2, 3, 4), [])
        self.assertEqual(point_classes(5, 2, 1, 4), [(2, 10), (4, 10)])
        self.assertEqual(meeting_classes(5, 2, 1, 4, -1), [(1, 5)])

    def test_a_returned_list_is_a_new_list(self):
        for ask in (
            lambda: solved(0, 0, 3), lambda: solved(1, 0, 3), lambda: point_classes(5, 0, 0, 0),
            lambda: meeting_classes(5, 2, 1, 2, 1),
        ):
            before = list(ask())
            ask().clear()
            self.assertEqual(ask(), before)


if __name__ == "__main__":
    unittest.main()
