"""Points 40 to 42, and the functions of cushioned.starts."""

import unittest

from cushioned.starts import slanting_starts, straight_starts
from cushioned.tables import Table

from walks import GREAT, balls_on, tables_with_pockets, walked_fall

BIG = 10 ** 28
POCKETS = [(0, 0), (5, 7), (BIG, 3), (7, 5), (BIG - 5, 7), (11, 0)]


def counted(table, slanting):
    """Return what a walk from every start finds."""
    numbers, never = {pocket: 0 for pocket in table.pockets}, 0
    for ball in balls_on(table, 0):
        if (0 not in ball[3:5]) is not slanting:
            continue
        fall = walked_fall(table, ball)
        if fall is None:
            never += 1
        else:
            numbers[fall[1]] += 1
    return (list(numbers.items()), never)


def all_starts(found):
    return sum(number for _, number in found[0]) + found[1]


class SmallTablesTest(unittest.TestCase):
    """Points 40 to 42."""

    def test_slanting_starts_against_a_walk(self):
        for table in tables_with_pockets():
            expected = counted(table, True)
            told = (table.width, table.height, table.pockets)
            self.assertEqual(slanting_starts(table), expected, told)
            self.assertEqual(all_starts(expected), 4 * (table.width + 1) * (table.height + 1))

    def test_straight_starts_against_a_walk(self):
        for table in tables_with_pockets():
            expected = counted(table, False)
            told = (table.width, table.height, table.pockets)
            self.assertEqual(straight_starts(table), expected, told)
            self.assertEqual(all_starts(expected), 4 * (table.width + 1) * (table.height + 1))

    def test_two_pockets_in_all_places(self):
        for width, height in ((2, 2), (3, 2), (4, 2)):
            points = [(x, y) for x in range(width + 1) for y in range(height + 1)]
            for one in points:
                for other in points:
                    if one != other:
                        table = Table(width, height, [one, other])
                        self.assertEqual(slanting_starts(table), counted(table, True))
                        self.assertEqual(straight_starts(table), counted(table, False))

    def test_every_point_a_pocket(self):
        table = Table(3, 2, [(x, y) for y in range(3) for x in range(4)])
        for ask in (slanting_starts, straight_starts):
            self.assertEqual(ask(table), ([(pocket, 4) for pocket in table.pockets], 0))

    def test_the_order_of_the_pockets(self):
        pockets = [(4, 1), (0, 0), (2, 2), (1, 3)]
        for ask in (slanting_starts, straight_starts):
            numbers, never = ask(Table(4, 3, pockets))
            self.assertEqual([pocket for pocket, _ in numbers], pockets)
            others, again = ask(Table(4, 3, pockets[::-1]))
            self.assertEqual((others[::-1], again), (numbers, never))


class GreatTablesTest(unittest.TestCase):
    def test_no_pockets(self):
        for width, height in ((1, 1), (4, 3), (GREAT, GREAT), (GREAT, 1)):
            starts = 4 * (width + 1) * (height + 1)
            self.assertEqual(slanting_starts(Table(width, height)), ([], starts))
            self.assertEqual(straight_starts(Table(width, height)), ([], starts))

    def test_the_numbers_together(self):
        for width, height in ((BIG, BIG), (BIG, BIG - 1), (BIG, BIG // 4), (BIG, 6 * 10 ** 27), (BIG, 8)):
            table = Table(width, height, [pocket for pocket in POCKETS if pocket[1] <= height])
            for ask in (slanting_starts, straight_starts):
                found = ask(table)
                self.assertEqual([pocket for pocket, _ in found[0]], list(table.pockets))
                self.assertEqual(all_starts(found), 4 * (width + 1) * (height + 1))
                self.assertTrue(all(number > 0 for _, number in found[0]))
                self.assertGreaterEqual(found[1], 0)

    def test_a_square_with_a_pocket_at_a_corner(self):
        # Only the starts on the diagonal fall: four at each end, two at each point between them.
        for side in (1, 2, 3, BIG, GREAT):
            number, starts = 2 * (side - 1) + 8, 4 * (side + 1) ** 2
            found = slanting_starts(Table(side, side, [(side, side)]))
            self.assertEqual(found, ([((side, side), number)], starts - number))

    def test_sides_without_a_common_divisor(self):
        # Half of all starts are on the one round that goes through the corner (0, 0).
        for width, height in ((2, 1), (4, 3), (BIG, BIG - 1), (GREAT, GREAT - 1)):
            half = 2 * (width + 1) * (height + 1)
            found = slanting_starts(Table(width, height, [(0, 0)]))
            self.assertEqual(found, ([((0, 0), half)], half))

    def test_straight_starts_of_great_tables(self):
        table = Table(GREAT, BIG, [(3, 5), (GREAT, 5), (0, BIG), (3, 0)])
        # On the row of the first two, all starts with an x up to 3, and those to the left with one
        # up to GREAT - 1, fall into the first; the others into the second.
        row = [2 * 4 + (GREAT - 4), (GREAT - 3) + 1]
        # On the column at 3, what is below 5 goes up or down; what is above it falls at 5.
        column = [4 + 2 * (BIG - 4), 2 + 4]
        expected = [
            ((3, 5), row[0] + column[0]), ((GREAT, 5), row[1] + 2 * (BIG + 1)),
            ((0, BIG), 2 * (GREAT + 1) + 2 * (BIG + 1)), ((3, 0), column[1] + 2 * (GREAT + 1)),
        ]
        never = 4 * (GREAT + 1) * (BIG + 1) - sum(number for _, number in expected)
        self.assertEqual(straight_starts(table), (expected, never))


class KindsTest(unittest.TestCase):
    def test_kinds(self):
        for ask in (slanting_starts, straight_starts):
            found = ask(Table(4, 3, [[4, 3], [1, 1]]))
            self.assertIs(type(found), tuple)
            self.assertIs(type(found[0]), list)
            self.assertIs(type(found[1]), int)
            for row in found[0]:
                self.assertEqual([type(row), type(row[0]), type(row[1])], [tuple, tuple, int])

    def test_the_same_answer_behind_a_change_of_the_first_one(self):
        for ask in (slanting_starts, straight_starts):
            table = Table(4, 3, [(4, 3), (1, 1)])
            found = ask(table)
            before = (list(found[0]), found[1])
            found[0].clear()
            self.assertEqual(ask(table), before)
            self.assertEqual(table.pockets, ((4, 3), (1, 1)))


class InterfaceTest(unittest.TestCase):
    def test_examples(self):
        self.assertEqual(straight_starts(Table(2, 1, [(0, 0)])), ([((0, 0), 10)], 14))
        self.assertEqual(slanting_starts(Table(1, 1, [(0, 0)])), ([((0, 0), 8)], 8))


if __name__ == "__main__":
    unittest.main()
