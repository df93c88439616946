"""The examples of the interface, of each module that has some, as the document writes them."""

import unittest

from cushioned import errors

EXAMPLES = {
    "tables.py": r"""
>>> from cushioned.tables import Table
>>> table = Table(4, 3, [(0, 0), (4, 1)])
>>> (table.corners(), table.is_edge((4, 2)), table.is_pocket((4, 1)))
([(0, 0), (0, 3), (4, 0), (4, 3)], True, True)
>>> table.turned().pockets
((0, 0), (1, 4))
>>> table.with_size(3, 3)
raises InvalidTable
""",
    "balls.py": r"""
>>> from cushioned.balls import mirrored, turned
>>> from cushioned.tables import Table
>>> mirrored(Table(4, 3), ("red", 1, 3, 1, 0, 7), ends=False)
('red', 3, 3, -1, 0, 7)
>>> turned(Table(4, 3), ("red", 4, 3, 1, 0, 7))
('red', 3, 4, 0, 1, 7)
>>> turned(Table(4, 3), ("red", 5, 3, 1, 0, 7))
raises InvalidBall
""",
    "notation.py": r"""
>>> from cushioned.notation import format_setup, parse_setup
>>> from cushioned.tables import Table
>>> format_setup(Table(4, 3, [(0, 0)]), [("red", 1, 2, -1, 0, 7)])
'table 4 3\npocket 0 0\nball red 1 2 -1 0 7'
>>> parse_setup("table 4 3\nball red 1 2 0 1 0")[1]
[('red', 1, 2, 0, 1, 0)]
>>> parse_setup("table 4 3\nball red 1 2 0 +1 0")
raises InvalidNotation
""",
    "runs.py": r"""
>>> from cushioned.runs import corner_minutes, heading_at, place_at, point_count, point_minutes
>>> from cushioned.tables import Table
>>> table = Table(4, 2)
>>> ball = ("b", 0, 1, 1, 1, 10)
>>> (place_at(table, ball, 11), heading_at(table, ball, 11), place_at(table, ball, 10 ** 20))
((1, 2), (1, -1), (2, 1))
>>> (corner_minutes(table, ball), point_count(table, ball), point_minutes(table, ball, (2, 1)))
(None, 7, [(12, 8), (16, 8)])
""",
    "congruences.py": r"""
>>> from cushioned.congruences import chinese, meeting_classes, point_classes, solved
>>> (chinese((1, 4), (3, 6)), chinese((0, 4), (3, 6)), solved(2, 3, 5), solved(-2, 3, 4))
((9, 12), None, [(4, 5)], [])
>>> (point_classes(5, 2, 1, 4), meeting_classes(5, 2, 1, 4, -1))
([(2, 10), (4, 10)], [(1, 5)])
""",
    "times.py": r"""
>>> from cushioned.times import Times, both
>>> times = both(Times(0, None, [(1, 4), (2, 4)]), Times(3, 40, [(0, 3)]))
>>> (times.start, times.end, times.classes, times.next_from(10), times.number_to(20))
(3, 40, [(6, 12), (9, 12)], 18, 3)
""",
    "meetings.py": r"""
>>> from cushioned.meetings import at_point, first_meeting
>>> from cushioned.tables import Table
>>> table = Table(3, 5)
>>> times = at_point(table, ("red", 0, 0, 1, 1, 2), (2, 2))
>>> (times.next_from(0), times.number_to(100))
(4, 14)
>>> first_meeting(table, ("red", 0, 0, 1, 1, 0), ("blue", 2, 0, -1, 1, 0), minute=2)
4
""",
    "nevers.py": r"""
>>> from cushioned.nevers import never
>>> from cushioned.tables import Table
>>> never(Table(3, 5), ("red", 0, 0, 1, 1, 0), ("blue", 0, 1, 1, 1, 0))
[('y',)]
>>> never(Table(2, 2), ("red", 0, 0, 1, 0, 0), ("blue", 1, 0, 0, 1, 0))
[('pair', 1, 4, 0, 4, 4), ('pair', 3, 4, 0, 4, 4)]
""",
    "falls.py": r"""
>>> from cushioned.falls import fall_of
>>> from cushioned.tables import Table
>>> table = Table(4, 3, [(4, 3), (0, 1)])
>>> fall_of(table, ("red", 1, 0, 1, 1, 5))
(8, (4, 3))
""",
    "starts.py": r"""
>>> from cushioned.starts import slanting_starts, straight_starts
>>> from cushioned.tables import Table
>>> straight_starts(Table(2, 1, [(0, 0)]))
([((0, 0), 10)], 14)
>>> slanting_starts(Table(1, 1, [(0, 0)]))
([((0, 0), 8)], 8)
""",
    "aims.py": r"""
>>> from cushioned.aims import in_order, pocket_aims
>>> from cushioned.tables import Table
>>> table = Table(4, 3, [(4, 3)])
>>> pocket_aims(table, (1, 0), 5, (4, 3))[0]
(8, (1, -1))
>>> in_order(table, ("red", 1, 0, 1, 1, 5), [(2, 1), (4, 3), (2, 1)])
[6, 8, 10]
""",
    "games.py": r"""
>>> from cushioned.tables import Table
>>> from cushioned.games import Game
>>> game = Game(Table(4, 2, [(4, 2)]), [("a", 0, 0, 1, 1, 0), ("b", 4, 0, -1, 1, 0), ("c", 2, 2, 1, 0, 1)])
>>> (game.first_meetings(), game.fall_order(), game.places(2))
([(2, 'a', 'b')], [(3, 'c')], [('a', (2, 2)), ('b', (2, 2)), ('c', (3, 2))])
""",
    "session.py": r"""
>>> from cushioned.session import Session
>>> session = Session()
>>> session.run("game g\ntable 4 2\nball a 0 0 1 1 0\nball b 4 0 -1 1 0\nend\nmeet g a b 0\nmeet g a b 3\nput g c 1 1 0 0 0\nwhere g 5")
['ok', 'ok', '2', '6', 'line 8: invalid ball', 'a 3 1', 'b 1 1']
""",
    "texts.py": r"""
>>> from cushioned.tables import Table
>>> from cushioned.texts import check_text, parse_never, times_text
>>> from cushioned.times import Times
>>> times_text(Times(5, None, [(3, 8), (1, 4)]))
'times 5 -\nclass 1 4\nclass 3 8'
>>> parse_never("never\npair 1 4 2 6 2")
[('pair', 1, 4, 2, 6, 2)]
>>> check_text(Table(4, 3), ("a", 0, 0, 1, 0, 0), ("b", 0, 1, 1, 0, 0), "never\ny")
True
>>> check_text(Table(4, 3), ("a", 0, 0, 1, 0, 0), ("b", 0, 1, 1, 0, 0), "never\nz")
raises InvalidPaper
""",
    "enlarged.py": r"""
>>> from cushioned.enlarged import enlarged, enlarged_ball, factor_of, reduced
>>> from cushioned.tables import Table
>>> table = Table(4, 3, [(4, 0)])
>>> (enlarged(table, 5).pockets, factor_of(table, enlarged(table, 5)), factor_of(enlarged(table, 5), table))
(((20, 0),), 5, None)
>>> enlarged_ball(table, ("red", 1, 2, -1, 0, 7), 5)
('red', 5, 10, -1, 0, 35)
>>> reduced(Table(8, 6), [("red", 2, 4, 1, 1, 0)])[1]
[('red', 1, 2, 1, 1, 0)]
>>> enlarged(table, 0)
raises InvalidQuestion
""",
    "crowds.py": r"""
>>> from cushioned.crowds import all_together, half_meetings, most_together
>>> from cushioned.tables import Table
>>> table = Table(3, 2)
>>> one = ("a", 0, 0, 1, 0, 0)
>>> other = ("b", 3, 0, -1, 0, 0)
>>> half_meetings(table, one, other)
[(1, 3)]
>>> all_together(table, [one, other])
[]
>>> most_together(table, [one, other])
(('a',), 0, (0, 0))
""",
    "watches.py": r"""
>>> from cushioned.tables import Table
>>> from cushioned.watches import first_pass, first_slot
>>> table = Table(2, 2)
>>> balls = [("red", 0, 0, 1, 0, 0), ("blue", 1, 0, 0, 1, 0)]
>>> (first_pass(table, balls, (1, 0), 1), first_slot(table, balls, (1, 0), 0, 20, 1), first_slot(table, balls, (1, 0), 0, 20, 2))
((1, 'red'), 2, None)
""",
}


def told(expression, names):
    """Return what an example tells of an expression: its value, or the error that it raises."""
    try:
        return repr(eval(expression, names))
    except errors.CushionedError as error:
        return "raises " + type(error).__name__


class ExamplesTest(unittest.TestCase):
    def run_example(self, text):
        """Run the lines of an example and return how many of them tell something."""
        names, count = {}, 0
        lines = text.strip().split("\n")
        for line, behind in zip(lines, [*lines[1:], ">>> "]):
            if not line.startswith(">>> "):
                continue
            if behind.startswith(">>> "):
                exec(line[4:], names)
            else:
                self.assertEqual(told(line[4:], names), behind)
                count += 1
        return count

    def test_each_module(self):
        for name, text in EXAMPLES.items():
            with self.subTest(name):
                self.assertEqual(self.run_example(text), text.count("\n") - 1 - text.count(">>> "))

    def test_the_modules_that_have_examples(self):
        self.assertEqual(len(EXAMPLES), 17)


if __name__ == "__main__":
    unittest.main()
