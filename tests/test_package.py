"""Point 1 and the beginning of the interface, for all files of the package."""

import ast
import builtins
import copy
import inspect
import pathlib
import unittest
import warnings

from cushioned import (
    aims, balls, book, commands, congruences, errors, falls, games, meetings, nevers, notation, runs,
    session, starts, tables, times)

PACKAGE = pathlib.Path(__file__).resolve().parent.parent / "cushioned"
BUILTINS = {
    "ValueError", "abs", "all", "any", "bool", "divmod", "enumerate", "int", "isinstance", "len",
    "list", "max", "min", "property", "range", "reversed", "set", "sorted", "str", "sum", "super", "tuple",
    "zip",
}
LIBRARY = {("itertools", "combinations"), ("math", "gcd"), ("math", "lcm")}
INTERFACE = {
    balls: {
        "is_name": "(text)",
        "is_ball": "(table, ball)",
        "check_ball": "(table, ball)",
        "check_balls": "(table, balls)",
        "back": "(table, ball)",
        "mirrored": "(table, ball, *, sides=True, ends=True)",
        "turned": "(table, ball)",
    },
    notation: {"format_setup": "(table, balls)", "parse_setup": "(text)"},
    tables: {"Table": "(width, height, pockets=())"},
    runs: {
        "place_at": "(table, ball, minute)",
        "heading_at": "(table, ball, minute)",
        "agreed": "(one, other)",
        "period": "(table, ball)",
        "corner_minutes": "(table, ball)",
        "goes_back": "(table, ball)",
        "point_count": "(table, ball)",
        "point_minutes": "(table, ball, point)",
        "is_passed": "(table, ball, point)",
        "first_return": "(table, ball)",
        "hits": "(table, ball, edge, until)",
    },
    congruences: {
        "chinese": "(one, other)",
        "solved": "(factor, right, modulus)",
        "point_classes": "(size, at, step, goal)",
        "meeting_classes": "(size, at, step, other, move)",
    },
    times: {"Times": "(start, end, classes)", "both": "(one, other)"},
    meetings: {
        "at_point": "(table, ball, point)",
        "meetings": "(table, one, other)",
        "all_meet": "(table, balls)",
        "first_meeting": "(table, one, other, *, minute=0)",
    },
    nevers: {
        "never": "(table, one, other)",
        "check_never": "(table, one, other, rows)",
    },
    falls: {
        "first_fall": "(table, ball)",
        "fall_of": "(table, ball)",
        "falls": "(table, balls)",
        "never_fall": "(table, balls)",
    },
    starts: {"slanting_starts": "(table)", "straight_starts": "(table)"},
    aims: {
        "pocket_aims": "(table, point, minute, pocket)",
        "meeting_aims": "(table, point, minute, ball)",
        "in_order": "(table, ball, points)",
        "order_aims": "(table, point, minute, points)",
    },
    games: {"Game": "(table, balls=())"},
    book: {"Book": "()"},
    commands: {"split_words": "(line)", "is_command": "(words)"},
    session: {"Session": "()"},
    errors: {
        "UnknownName": "(name)",
        "InvalidNotation": "(line)",
        "InvalidPaper": "(line)",
    },
}
METHODS = {
    tables.Table: {
        "is_point": "(self, point)",
        "check_point": "(self, point)",
        "is_edge": "(self, point)",
        "is_corner": "(self, point)",
        "is_pocket": "(self, point)",
        "corners": "(self)",
        "with_size": "(self, width, height)",
        "with_pocket": "(self, point)",
        "without_pocket": "(self, point)",
        "turned": "(self)",
    },
    times.Times: {
        "holds": "(self, minute)",
        "next_from": "(self, minute)",
        "number_to": "(self, minute)",
        "is_empty": "(self)",
    },
    games.Game: {
        "ball": "(self, name)",
        "life": "(self, name)",
        "stands": "(self, name, minute)",
        "places": "(self, minute)",
        "meetings": "(self, one, other)",
        "first_meetings": "(self)",
        "next_meeting": "(self, minute)",
        "company": "(self, name)",
        "fall_order": "(self)",
        "with_ball": "(self, ball)",
        "without_ball": "(self, name)",
    },
    book.Book: {
        "set_game": "(self, name, table, balls)",
        "drop_game": "(self, name)",
        "put_ball": "(self, name, ball)",
        "take_ball": "(self, name, ball_name)",
        "undo": "(self)",
        "redo": "(self)",
        "change_all": "(self, changes)",
        "game_names": "(self)",
        "game": "(self, name)",
        "report": "(self, name)",
    },
    session.Session: {"run": "(self, text)"},
}


def all_nodes():
    """Yield the name of each file of the package with each node of its tree."""
    for path in sorted(PACKAGE.glob("**/*.py")):
        for node in ast.walk(ast.parse(path.read_text(encoding="ascii"))):
            yield path.name, node


class FilesTest(unittest.TestCase):
    def test_there_are_files(self):
        self.assertGreater(len(list(all_nodes())), 100)

    def test_init_defines_nothing(self):
        tree = ast.parse((PACKAGE / "__init__.py").read_text(encoding="ascii"))
        self.assertEqual(tree.body, [])

    def test_nothing_but_the_package_is_imported(self):
        for name, node in all_nodes():
            self.assertNotIsInstance(node, ast.Import, name)
            if isinstance(node, ast.ImportFrom) and not node.module.startswith("cushioned."):
                for word in node.names:
                    self.assertIn((node.module, word.name), LIBRARY, name)

    def test_no_other_builtins_are_used(self):
        for name, node in all_nodes():
            if isinstance(node, ast.Name) and hasattr(builtins, node.id):
                self.assertIn(node.id, BUILTINS, name)

    def test_all_numbers_are_integers(self):
        for name, node in all_nodes():
            self.assertNotIsInstance(node, ast.Div, name)
            if isinstance(node, ast.Constant):
                self.assertNotIsInstance(node.value, (float, complex), name)

    def test_python_warns_of_no_line(self):
        with warnings.catch_warnings():
            warnings.simplefilter("error")
            for path in PACKAGE.glob("**/*.py"):
                compile(path.read_text(encoding="ascii"), str(path), "exec")

    def test_sizes_of_files_functions_and_lines(self):
        for path in PACKAGE.glob("**/*.py"):
            lines = path.read_text(encoding="ascii").split("\n")
            self.assertLess(len(lines), 400, path)
            self.assertLessEqual(max(map(len, lines)), 120, path)
        for name, node in all_nodes():
            if isinstance(node, ast.FunctionDef):
                self.assertLessEqual(node.end_lineno - node.lineno + 1, 40, (name, node.name))


class InterfaceTest(unittest.TestCase):
    def test_functions_and_classes_stand_in_their_files(self):
        for module, names in INTERFACE.items():
            for name, arguments in names.items():
                thing = getattr(module, name)
                self.assertEqual(thing.__module__, module.__name__)
                self.assertEqual(str(inspect.signature(thing)), arguments, name)

    def test_methods_stand_in_their_class(self):
        for kind, methods in METHODS.items():
            for name, arguments in methods.items():
                method = vars(kind)[name]
                self.assertEqual(str(inspect.signature(method)), arguments, name)

    def test_names_are_a_property_of_games(self):
        self.assertIs(type(vars(games.Game)["names"]), property)

    def test_attributes_are_set_when_an_object_is_created(self):
        table = tables.Table(4, 3)
        for thing, names in (
            (table, ["width", "height", "pockets"]), (times.Times(0, None, []), ["start", "end", "classes"]),
            (games.Game(table), ["table", "balls"]), (book.Book(), ["decided", "kept"]),
            (session.Session(), ["book"]), (errors.UnknownName("a"), ["name"]),
            (errors.InvalidNotation(1), ["line"]), (errors.InvalidPaper(1), ["line"]),
        ):
            for name in names:
                self.assertIn(name, vars(thing))


class ArgumentsTest(unittest.TestCase):
    """No function modifies what it is passed."""

    def setUp(self):
        self.pockets = [[4, 1], [0, 0]]
        self.balls = [("red", 1, 2, -1, 0, 7), ("b2", 4, 3, 1, 1, 0)]
        self.point = [1, 2]
        self.classes = [[5, 8], (2, 4)]
        self.table = tables.Table(4, 3, self.pockets)
        self.times = times.Times(3, 90, self.classes)
        self.before = copy.deepcopy(self.told())

    def told(self):
        kept = (vars(self.table), vars(self.times))
        return (self.pockets, self.balls, self.point, self.classes, kept)

    def tearDown(self):
        self.assertEqual(self.told(), self.before)

    def test_tables(self):
        self.table.with_size(9, 9)
        self.table.with_pocket((1, 1))
        self.table.without_pocket((0, 0))
        self.table.turned()
        self.table.corners().clear()

    def test_balls(self):
        balls.check_balls(self.table, self.balls)
        for ball in self.balls:
            balls.back(self.table, ball)
            balls.mirrored(self.table, ball)
            balls.turned(self.table, ball)

    def test_notation(self):
        text = notation.format_setup(self.table, self.balls)
        found = notation.parse_setup(text)[1]
        self.assertEqual(found, self.balls)
        found.clear()

    def test_runs(self):
        for ball in self.balls:
            runs.place_at(self.table, ball, 9)
            runs.heading_at(self.table, ball, 9)
            runs.first_return(self.table, ball)
            runs.is_passed(self.table, ball, self.point)
            runs.point_minutes(self.table, ball, self.point).clear()
        runs.agreed(self.classes[0], self.classes[1])

    def test_classes_and_times(self):
        congruences.chinese(self.classes[0], self.classes[1])
        found = times.both(self.times, self.times)
        found.classes.clear()
        self.times.next_from(4)
        self.times.number_to(80)

    def test_meetings(self):
        meetings.all_meet(self.table, self.balls).classes.clear()
        meetings.all_meet(self.table, [self.balls[0]] * 3).classes.clear()
        for ball in self.balls:
            meetings.at_point(self.table, ball, self.point).classes.clear()
            meetings.meetings(self.table, ball, self.balls[0]).classes.clear()
            meetings.first_meeting(self.table, ball, self.balls[0], minute=7)

    def test_nevers(self):
        for ball in self.balls:
            rows = nevers.never(self.table, ball, self.balls[0])
            rows = [["pair", 1, 8, 0, 6, 2], ("x",)] if rows is None else rows
            before = copy.deepcopy(rows)
            nevers.check_never(self.table, ball, self.balls[0], rows)
            self.assertEqual(rows, before)

    def test_falls_and_starts(self):
        falls.falls(self.table, self.balls).clear()
        falls.never_fall(self.table, self.balls).clear()
        starts.slanting_starts(self.table)[0].clear()
        starts.straight_starts(self.table)[0].clear()

    def test_aims(self):
        aims.pocket_aims(self.table, self.point, 3, self.pockets[0]).clear()
        aims.meeting_aims(self.table, self.point, 3, self.balls[0]).clear()
        goals = [self.point, self.pockets[0]]
        aims.order_aims(self.table, self.point, 3, goals).clear()
        aims.in_order(self.table, self.balls[0], goals)
        self.assertEqual(goals, [self.point, self.pockets[0]])

    def test_games(self):
        game = games.Game(self.table, self.balls)
        before = (copy.deepcopy(vars(game.table)), game.balls)
        for found in (
            game.places(9), game.first_meetings(), game.company("red"), game.fall_order(),
            game.meetings("red", "b2").classes,
        ):
            found.clear()
        game.with_ball(("b3", 0, 0, 1, 1, 0))
        game.without_ball("red")
        game.next_meeting(7)
        self.assertEqual((vars(game.table), game.balls), before)

    def test_books_and_sessions(self):
        kept = book.Book()
        ball = ("b3", 0, 0, 1, 1, 0)
        changes = [("set_game", "g", self.table, self.balls), ("put_ball", "g", ball)]
        before = copy.deepcopy([change[:2] for change in changes])
        kept.change_all(changes)
        kept.set_game("h", self.table, self.balls)
        kept.put_ball("h", ball)
        kept.take_ball("h", "red")
        kept.game_names().clear()
        kept.report("g")
        self.assertEqual([change[:2] for change in changes], before)
        self.assertIs(changes[0][3], self.balls)
        self.assertEqual(kept.game("g").balls, (*self.balls, ball))
        session.Session().run("game g\ntable 1 1\nend").clear()
        words = commands.split_words("take g a")
        commands.is_command(words)
        self.assertEqual(words, ["take", "g", "a"])


if __name__ == "__main__":
    unittest.main()
