"""Points 2 to 4, and the table of the interface."""

import unittest

from cushioned.errors import InvalidQuestion, InvalidTable
from cushioned.tables import Table

GREAT = 10 ** 30
QUESTIONS = ("check_point", "is_edge", "is_corner", "is_pocket", "without_pocket")
BESIDE = [(-1, 1), (5, 1), (1, -1), (1, 4), (-1, -1), (5, 4), (GREAT, 0), (0, -GREAT)]


def shown(table):
    return (table.width, table.height, table.pockets)


class SizeTest(unittest.TestCase):
    def test_sides_are_kept(self):
        for width, height in [(4, 3), (1, 1), (1, GREAT), (GREAT, 1), (GREAT, GREAT)]:
            self.assertEqual(shown(Table(width, height)), (width, height, ()))

    def test_other_sides_are_refused(self):
        for side in (0, -1, -GREAT, GREAT + 1):
            for width, height in [(side, 3), (4, side), (side, side)]:
                with self.assertRaises(InvalidTable):
                    Table(width, height)

    def test_points(self):
        table = Table(4, 3)
        for x in range(-2, 8):
            for y in range(-2, 7):
                expected = 0 <= x <= 4 and 0 <= y <= 3
                self.assertIs(table.is_point((x, y)), expected)
                self.assertIs(table.is_point([x, y]), expected)

    def test_points_of_the_greatest_table(self):
        table = Table(GREAT, GREAT)
        self.assertIs(table.is_point((GREAT, GREAT)), True)
        self.assertIs(table.is_point((GREAT + 1, 0)), False)
        self.assertIs(table.is_point((0, GREAT + 1)), False)

    def test_edges_and_corners(self):
        for width, height in [(4, 3), (1, 2), (1, 1)]:
            table = Table(width, height)
            for x in range(width + 1):
                for y in range(height + 1):
                    across, along = x in (0, width), y in (0, height)
                    for point in ((x, y), [x, y]):
                        self.assertIs(table.is_edge(point), across or along)
                        self.assertIs(table.is_corner(point), across and along)

    def test_corners_are_ascending(self):
        self.assertEqual(Table(4, 3).corners(), [(0, 0), (0, 3), (4, 0), (4, 3)])
        self.assertEqual(Table(1, GREAT).corners(), [(0, 0), (0, GREAT), (1, 0), (1, GREAT)])

    def test_corners_are_a_new_list(self):
        table = Table(4, 3)
        table.corners().clear()
        self.assertEqual(len(table.corners()), 4)


class PocketsTest(unittest.TestCase):
    def test_order_is_kept(self):
        pockets = ((4, 1), (0, 0), (2, 2))
        self.assertEqual(Table(4, 3, pockets).pockets, pockets)
        self.assertEqual(Table(4, 3, pockets=pockets[::-1]).pockets, pockets[::-1])

    def test_lists_are_kept_as_tuples(self):
        pockets = Table(4, 3, [[4, 1], (0, 0), [2, 2]]).pockets
        self.assertEqual(pockets, ((4, 1), (0, 0), (2, 2)))
        self.assertEqual([type(pocket) for pocket in (pockets, *pockets)], [tuple] * 4)

    def test_lists_are_copied_and_not_changed(self):
        given = [[4, 1], [0, 0]]
        table = Table(4, 3, given)
        self.assertEqual(given, [[4, 1], [0, 0]])
        given[0][0] = 3
        given.append([1, 1])
        self.assertEqual(table.pockets, ((4, 1), (0, 0)))

    def test_number_of_pockets(self):
        places = [(k, 0) for k in range(13)]
        for many in (0, 1, 11, 12):
            self.assertEqual(len(Table(20, 1, places[:many]).pockets), many)
        with self.assertRaises(InvalidTable):
            Table(20, 1, places)

    def test_pockets_at_each_corner_and_within(self):
        for pocket in [(0, 0), (4, 0), (0, 3), (4, 3), (2, 1)]:
            self.assertEqual(Table(4, 3, [pocket]).pockets, (pocket,))

    def test_pockets_beside_the_table_are_refused(self):
        for pocket in BESIDE:
            with self.assertRaises(InvalidTable):
                Table(4, 3, [(0, 0), pocket])

    def test_a_pocket_twice_is_refused(self):
        for pockets in ([(1, 1), (1, 1)], [(1, 1), [1, 1]], [(1, 1), (0, 0), (1, 1)]):
            with self.assertRaises(InvalidTable):
                Table(4, 3, pockets)

    def test_pockets_of_other_numbers_of_parts_are_refused(self):
        for pocket in ((), (1,), [1], (1, 1, 1), [1, 1, 1], (1, 1, 1, 1)):
            with self.assertRaises(InvalidTable):
                Table(4, 3, [pocket])

    def test_is_pocket(self):
        table = Table(4, 3, [(4, 1), [0, 0]])
        for x in range(5):
            for y in range(4):
                expected = (x, y) in [(4, 1), (0, 0)]
                self.assertIs(table.is_pocket((x, y)), expected)
                self.assertIs(table.is_pocket([x, y]), expected)


class QuestionTest(unittest.TestCase):
    def test_points_pass(self):
        table = Table(4, 3)
        for point in [(0, 0), [4, 3], (2, 1), [0, 3]]:
            self.assertIsNone(table.check_point(point))

    def test_what_is_no_point_is_refused(self):
        table = Table(4, 3, [(0, 0)])
        for point in BESIDE:
            self.assertIs(table.is_point(point), False)
            for word in QUESTIONS:
                for passed in (point, list(point)):
                    with self.assertRaises(InvalidQuestion):
                        getattr(table, word)(passed)

    def test_points_that_are_passed_do_not_change(self):
        table = Table(4, 3, [(1, 2)])
        point = [1, 2]
        for word in QUESTIONS:
            getattr(table, word)(point)
        self.assertEqual(point, [1, 2])


class OtherTablesTest(unittest.TestCase):
    def setUp(self):
        self.table = Table(4, 3, [(0, 0), (4, 1)])

    def tearDown(self):
        self.assertEqual(shown(self.table), (4, 3, ((0, 0), (4, 1))))

    def test_with_size(self):
        self.assertEqual(shown(self.table.with_size(5, 1)), (5, 1, ((0, 0), (4, 1))))
        self.assertEqual(shown(self.table.with_size(4, GREAT)), (4, GREAT, ((0, 0), (4, 1))))

    def test_with_size_refuses(self):
        for width, height in [(3, 3), (0, 3), (4, 0), (GREAT + 1, 3), (4, GREAT + 1)]:
            with self.assertRaises(InvalidTable):
                self.table.with_size(width, height)

    def test_with_pocket(self):
        expected = (4, 3, ((0, 0), (4, 1), (2, 2)))
        point = [2, 2]
        found = self.table.with_pocket(point)
        point[0] = 3
        self.assertEqual(shown(found), expected)
        self.assertEqual(shown(self.table.with_pocket((2, 2))), expected)
        self.assertIs(type(found.pockets[2]), tuple)

    def test_with_pocket_refuses(self):
        for point in [*BESIDE, (0, 0), [4, 1], (1,), (1, 1, 1)]:
            with self.assertRaises(InvalidTable):
                self.table.with_pocket(point)

    def test_with_pocket_refuses_a_thirteenth(self):
        table = Table(20, 1, [(k, 0) for k in range(11)]).with_pocket((11, 0))
        self.assertEqual(len(table.pockets), 12)
        with self.assertRaises(InvalidTable):
            table.with_pocket((12, 0))

    def test_without_pocket(self):
        self.assertEqual(shown(self.table.without_pocket((0, 0))), (4, 3, ((4, 1),)))
        self.assertEqual(shown(self.table.without_pocket([4, 1])), (4, 3, ((0, 0),)))
        three = self.table.with_pocket((2, 2)).without_pocket((4, 1))
        self.assertEqual(shown(three), (4, 3, ((0, 0), (2, 2))))

    def test_without_pocket_refuses(self):
        for point in [(1, 1), [1, 0], (0, 1), *BESIDE]:
            with self.assertRaises(InvalidQuestion):
                self.table.without_pocket(point)

    def test_turned(self):
        self.assertEqual(shown(self.table.turned()), (3, 4, ((0, 0), (1, 4))))
        self.assertEqual(shown(self.table.turned().turned()), shown(self.table))

    def test_interface_example(self):
        table = self.table
        told = (table.corners(), table.is_edge((4, 2)), table.is_pocket((4, 1)))
        self.assertEqual(told, ([(0, 0), (0, 3), (4, 0), (4, 3)], True, True))
        self.assertEqual(table.turned().pockets, ((0, 0), (1, 4)))
        with self.assertRaises(InvalidTable):
            table.with_size(3, 3)


if __name__ == "__main__":
    unittest.main()
