"""Point 1 and the beginning of the interface, for all files of the package."""

import ast
import builtins
import copy
import inspect
import pathlib
import unittest
import warnings

from cushioned import (
    aims, balls, book, commands, congruences, crowds, enlarged, errors, falls, games, meetings, nevers,
    notation, runs, session, starts, tables, texts, times, watches)

PACKAGE = pathlib.Path(__file__).resolve().parent.parent / "cushioned"
BUILTINS = {
    "ValueError", "abs", "all", "any", "bool", "divmod", "enumerate", "int", "isinstance", "len",
    "list", "max", "min", "property", "range", "reversed", "set", "sorted", "str", "sum", "super", "tuple",
    "zip",
}
LIBRARY = {("itertools", "combinations"), ("math", "gcd"), ("math", "lcm")}
INTERFACE = {
    balls: {
        "is_name": "(text)",
        "is_ball": "(table, ball)",
        "check_ball": "(table, ball)",
        "check_balls": "(table, balls)",
        "back": "(table, ball)",
        "mirrored": "(table, ball, *, sides=True, ends=True)",
        "turned": "(table, ball)",
    },
    notation: {"format_setup": "(table, balls)", "parse_setup": "(text)"},
    tables: {"Table": "(width, height, pockets=())"},
    runs: {
        "place_at": "(table, ball, minute)",
        "heading_at": "(table, ball, minute)",
        "agreed": "(one, other)",
        "period": "(table, ball)",
        "corner_minutes": "(table, ball)",
        "goes_back": "(table, ball)",
        "point_count": "(table, ball)",
        "point_minutes": "(table, ball, point)",
        "is_passed": "(table, ball, point)",
        "first_return": "(table, ball)",
        "hits": "(table, ball, edge, until)",
    },
    congruences: {
        "chinese": "(one, other)",
        "solved": "(factor, right, modulus)",
        "point_classes": "(size, at, step, goal)",
        "meeting_classes": "(size, at, step, other, move)",
    },
    times: {"Times": "(start, end, classes)", "both": "(one, other)"},
    meetings: {
        "at_point": "(table, ball, point)",
        "meetings": "(table, one, other)",
        "all_meet": "(table, balls)",
        "first_meeting": "(table, one, other, *, minute=0)",
    },
    nevers: {
        "never": "(table, one, other)",
        "check_never": "(table, one, other, rows)",
    },
    falls: {
        "first_fall": "(table, ball)",
        "fall_of": "(table, ball)",
        "falls": "(table, balls)",
        "never_fall": "(table, balls)",
    },
    starts: {"slanting_starts": "(table)", "straight_starts": "(table)"},
    aims: {
        "pocket_aims": "(table, point, minute, pocket)",
        "meeting_aims": "(table, point, minute, ball)",
        "in_order": "(table, ball, points)",
        "order_aims": "(table, point, minute, points)",
    },
    games: {"Game": "(table, balls=())"},
    book: {"Book": "()"},
    commands: {"split_words": "(line)", "is_command": "(words)"},
    session: {"Session": "()"},
    texts: {
        "times_text": "(times)",
        "parse_times": "(text)",
        "never_text": "(rows)",
        "parse_never": "(text)",
        "check_text": "(table, one, other, text)",
    },
    enlarged: {
        "enlarged": "(table, factor)",
        "enlarged_ball": "(table, ball, factor)",
        "factor_of": "(table, other)",
        "greatest_factor": "(table, balls)",
        "reduced": "(table, balls)",
    },
    crowds: {
        "half_meetings": "(table, one, other)",
        "next_half": "(table, one, other, minute)",
        "all_together": "(table, balls)",
        "most_together": "(table, balls)",
        "crowd_at": "(table, balls, minute)",
    },
    watches: {
        "passes": "(table, ball, point, times)",
        "meets_while": "(table, one, other, times)",
        "first_pass": "(table, balls, point, minute)",
        "passes_to": "(table, balls, point, minute)",
        "is_clear": "(table, balls, point, start, end)",
        "first_slot": "(table, balls, point, start, end, length)",
    },
    errors: {
        "UnknownName": "(name)",
        "InvalidNotation": "(line)",
        "InvalidPaper": "(line)",
    },
}
METHODS = {
    tables.Table: {
        "is_point": "(self, point)",
        "check_point": "(self, point)",
        "is_edge": "(self, point)",
        "is_corner": "(self, point)",
        "is_pocket": "(self, point)",
        "corners": "(self)",
        "with_size": "(self, width, height)",
        "with_pocket": "(self, point)",
        "without_pocket": "(self, point)",
        "turned": "(self)",
    },
    times.Times: {
        "holds": "(self, minute)",
        "next_from": "(self, minute)",
        "number_to": "(self, minute)",
        "is_empty": "(self)",
    },
    games.Game: {
        "ball": "(self, name)",
        "life": "(self, name)",
        "stands": "(self, name, minute)",
        "places": "(self, minute)",
        "meetings": "(self, one, other)",
        "first_meetings": "(self)",
        "next_meeting": "(self, minute)",
        "company": "(self, name)",
        "fall_order": "(self)",
        "with_ball": "(self, ball)",
        "without_ball": "(self, name)",
    },
    book.Book: {
        "set_game": "(self, name, table, balls)",
        "drop_game": "(self, name)",
        "put_ball": "(self, name, ball)",
        "take_ball": "(self, name, ball_name)",
        "undo": "(self)",
        "redo": "(self)",
        "change_all": "(self, changes)",
        "game_names": "(self)",
        "game": "(self, name)",
        "report": "(self, name)",
    },
    session.Session: {"run": "(self, text)"},
}


def all_nodes():
    """Yield the name of each file of the package with each node of its tree."""
    for path in sorted(PACKAGE.glob("**/*.py")):
        for node in ast.walk(ast.parse(path.read_text(encoding="ascii"))):
            yield path.name, node


class FilesTest(unittest.TestCase):
    def test_there_are_files(self):
        self.assertGreater(len(list(all_nodes())), 100)

    def test_init_defines_nothing(self):
        tree = ast.parse((PACKAGE / "__init__.py").read_text(encoding="ascii"))
        self.assertEqual(tree.body, [])

    def test_nothing_but_the_package_is_imported(self):
        for name, node in all_nodes():
            self.assertNotIsInstance(node, ast.Import, name)
            if isinstance(node, ast.ImportFrom) and not node.module.startswith("cushioned."):
                for word in node.names:
                    self.assertIn((node.module, word.name), LIBRARY, name)

    def test_no_other_builtins_are_used(self):
        for name, node in all_nodes():
            if isinstance(node, ast.Name) and hasattr(builtins, node.id):
                self.assertIn(node.id, BUILTINS, name)

    def test_all_numbers_are_integers(self):
        for name, node in all_nodes():
            self.assertNotIsInstance(node, ast.Div, name)
            if isinstance(node, ast.Constant):
                self.assertNotIsInstance(node.value, (float, complex), name)

    def test_python_warns_of_no_line(self):
        with warnings.catch_warnings():
            warnings.simplefilter("error")
            for path in PACKAGE.glob("**/*.py"):
                compile(path.read_text(encoding="ascii"), str(path), "exec")

    def test_sizes_of_files_functions_and_lines(self):
        for path in PACKAGE.glob("**/*.py"):
            lines = path.read_text(encoding="ascii").split("\n")
            self.assertLess(len(lines), 400, path)
            self.assertLessEqual(max(map(len, lines)), 120, path)
        for name, node in all_nodes():
            if isinstance(node, ast.FunctionDef):
                self.assertLessEqual(node.end_lineno - node.lineno + 1, 40, (name, node.name))


class InterfaceTest(unittest.TestCase):
    def test_functions_and_classes_stand_in_their_files(self):
        for module, names in INTERFACE.items():
            for name, arguments in names.items():
                thing = getattr(module, name)
                self.assertEqual(thing.__module__, module.__name__)
                self.assertEqual(str(inspect.signature(thing)), arguments, name)

    def test_methods_stand_in_their_class(self):
        for kind, methods in METHODS.items():
            for name, arguments in methods.items():
                method = vars(kind)[name]
                self.assertEqual(str(inspect.signature(method)), arguments, name)

    def test_names_are_a_property_of_games(self):
        self.assertIs(type(vars(games.Game)["names"]), property)

    def test_attributes_are_set_when_an_object_is_created(self):
        table = tables.Table(4, 3)
        for thing, names in (
            (table, ["width", "height", "pockets"]), (times.Times(0, None, []), ["start", "end", "classes"]),
            (games.Game(table), ["table", "balls"]), (book.Book(), ["decided", "kept"]),
            (session.Session(), ["book"]), (errors.UnknownName("a"), ["name"]),
            (errors.InvalidNotation(1), ["line"]), (errors.InvalidPaper(1), ["line"]),
        ):
            for name in names:
                self.assertIn(name, vars(thing))


class ArgumentsTest(unittest.TestCase):
    """No function modifies what it is passed."""

    def setUp(self):
        self.pockets = [[4, 1], [0, 0]]
        self.balls = [("red", 1, 2, -1, 0, 7), ("b2", 4, 3, 1, 1, 0)]
        self.point = [1, 2]
        self.classes = [[5, 8], (2, 4)]
        self.table = tables.Table(4, 3, self.pockets)
        self.times = times.Times(3, 90, self.classes)
        self.before = copy.deepcopy(self.told())

    def told(self):
        kept = (vars(self.table), vars(self.times))
        return (self.pockets, self.balls, self.point, self.classes, kept)

    def tearDown(self):
        self.assertEqual(self.told(), self.before)

    def test_tables(self):
        self.table.with_size(9, 9)
        self.table.with_pocket((1, 1))
        self.table.without_pocket((0, 0))
        self.table.turned()
        self.table.corners().clear()

    def test_balls(self):
        balls.check_balls(self.table, self.balls)
        for ball in self.balls:
            balls.back(self.table, ball)
            balls.mirrored(self.table, ball)
            balls.turned(self.table, ball)

    def test_notation(self):
        text = notation.format_setup(self.table, self.balls)
        found = notation.parse_setup(text)[1]
        self.assertEqual(found, self.balls)
        found.clear()

    def test_runs(self):
        for ball in self.balls:
            runs.place_at(self.table, ball, 9)
            runs.heading_at(self.table, ball, 9)
            runs.first_return(self.table, ball)
            runs.is_passed(self.table, ball, self.point)
            runs.point_minutes(self.table, ball, self.point).clear()
        runs.agreed(self.classes[0], self.classes[1])

    def test_classes_and_times(self):
        congruences.chinese(self.classes[0], self.classes[1])
        found = times.both(self.times, self.times)
        found.classes.clear()
        self.times.next_from(4)
        self.times.number_to(80)

    def test_meetings(self):
        meetings.all_meet(self.table, self.balls).classes.clear()
        meetings.all_meet(self.table, [self.balls[0]] * 3).classes.clear()
        for ball in self.balls:
            meetings.at_point(self.table, ball, self.point).classes.clear()
            meetings.meetings(self.table, ball, self.balls[0]).classes.clear()
            meetings.first_meeting(self.table, ball, self.balls[0], minute=7)

    def test_nevers(self):
        for ball in self.balls:
            rows = nevers.never(self.table, ball, self.balls[0])
            rows = [["pair", 1, 8, 0, 6, 2], ("x",)] if rows is None else rows
            before = copy.deepcopy(rows)
            nevers.check_never(self.table, ball, self.balls[0], rows)
            self.assertEqual(rows, before)

    def test_falls_and_starts(self):
        falls.falls(self.table, self.balls).clear()
        falls.never_fall(self.table, self.balls).clear()
        starts.slanting_starts(self.table)[0].clear()
        starts.straight_starts(self.table)[0].clear()

    def test_aims(self):
        aims.pocket_aims(self.table, self.point, 3, self.pockets[0]).clear()
        aims.meeting_aims(self.table, self.point, 3, self.balls[0]).clear()
        goals = [self.point, self.pockets[0]]
        aims.order_aims(self.table, self.point, 3, goals).clear()
        aims.in_order(self.table, self.balls[0], goals)
        self.assertEqual(goals, [self.point, self.pockets[0]])

    def test_games(self):
        game = games.Game(self.table, self.balls)
        before = (copy.deepcopy(vars(game.table)), game.balls)
        for found in (
            game.places(9), game.first_meetings(), game.company("red"), game.fall_order(),
            game.meetings("red", "b2").classes,
        ):
            found.clear()
        game.with_ball(("b3", 0, 0, 1, 1, 0))
        game.without_ball("red")
        game.next_meeting(7)
        self.assertEqual((vars(game.table), game.balls), before)

    def test_books_and_sessions(self):
        kept = book.Book()
        ball = ("b3", 0, 0, 1, 1, 0)
        changes = [("set_game", "g", self.table, self.balls), ("put_ball", "g", ball)]
        before = copy.deepcopy([change[:2] for change in changes])
        kept.change_all(changes)
        kept.set_game("h", self.table, self.balls)
        kept.put_ball("h", ball)
        kept.take_ball("h", "red")
        kept.game_names().clear()
        kept.report("g")
        self.assertEqual([change[:2] for change in changes], before)
        self.assertIs(changes[0][3], self.balls)
        self.assertEqual(kept.game("g").balls, (*self.balls, ball))
        session.Session().run("game g\ntable 1 1\nend").clear()
        words = commands.split_words("take g a")
        commands.is_command(words)
        self.assertEqual(words, ["take", "g", "a"])


    def test_texts(self):
        rows = [["pair", 1, 8, 0, 6, 2], ("x",)]
        before = copy.deepcopy(rows)
        texts.parse_times(texts.times_text(self.times)).classes.clear()
        texts.parse_never(texts.never_text(rows)).clear()
        texts.check_text(self.table, self.balls[0], self.balls[1], texts.never_text(rows))
        self.assertEqual(rows, before)

    def test_enlarged(self):
        great = enlarged.enlarged(self.table, 6)
        before = copy.deepcopy(vars(great))
        far = [enlarged.enlarged_ball(self.table, ball, 6) for ball in self.balls]
        enlarged.factor_of(self.table, great)
        enlarged.greatest_factor(great, far)
        enlarged.reduced(great, far)[1].clear()
        enlarged.reduced(self.table, self.balls)[1].clear()
        self.assertEqual((vars(great), len(far)), (before, 2))

    def test_crowds(self):
        crowds.half_meetings(self.table, *self.balls).clear()
        crowds.next_half(self.table, *self.balls, 8)
        crowds.all_together(self.table, self.balls).clear()
        crowds.all_together(self.table, self.balls[:1]).clear()
        crowds.most_together(self.table, self.balls)
        crowds.crowd_at(self.table, self.balls, 9).clear()

    def test_watches(self):
        watches.passes(self.table, self.balls[0], self.point, self.times).classes.clear()
        watches.meets_while(self.table, *self.balls, self.times).classes.clear()
        watches.first_pass(self.table, self.balls, self.point, 9)
        watches.passes_to(self.table, self.balls, self.point, 9).clear()
        watches.is_clear(self.table, self.balls, self.point, 3, 9)
        watches.first_slot(self.table, self.balls, self.point, 3, 99, 2)


class NewListsTest(unittest.TestCase):
    """The beginning of the interface: a list that is returned is a new list."""

    def setUp(self):
        self.table = tables.Table(4, 4, [(4, 4), (0, 1)])
        self.balls = [("a", 0, 0, 1, 1, 0), ("b", 4, 0, -1, 1, 0), ("c", 2, 1, 0, 1, 3)]
        self.points = [(1, 1), (2, 2)]
        self.classes = [(1, 4), (3, 8)]
        self.times = times.Times(0, None, self.classes)

    def calls(self):
        """Return calls of all functions and methods that return a list, or what holds one."""
        table, rows, one, other = self.table, self.balls, self.balls[0], self.balls[1]
        game, kept = games.Game(table, rows), book.Book()
        kept.set_game("g", table, rows)
        text = notation.format_setup(table, rows)
        return [
            table.corners, lambda: notation.parse_setup(text), lambda: runs.point_minutes(table, one, (2, 2)),
            lambda: congruences.solved(0, 0, 3), lambda: congruences.solved(0, 1, 3),
            lambda: congruences.solved(2, 4, 6), lambda: congruences.point_classes(4, 1, 0, 1),
            lambda: congruences.meeting_classes(4, 1, 1, 3, -1), lambda: times.Times(0, None, self.classes),
            lambda: times.both(self.times, self.times), lambda: meetings.at_point(table, one, (2, 2)),
            lambda: meetings.meetings(table, one, other), lambda: meetings.all_meet(table, rows),
            lambda: nevers.never(table, one, rows[2]), lambda: falls.falls(table, rows),
            lambda: falls.never_fall(table, rows), lambda: starts.slanting_starts(table),
            lambda: starts.straight_starts(table), lambda: aims.pocket_aims(table, (1, 1), 3, (4, 4)),
            lambda: aims.meeting_aims(table, (1, 1), 3, one), lambda: aims.in_order(table, one, self.points),
            lambda: aims.order_aims(table, (1, 1), 3, self.points), lambda: game.places(1),
            lambda: game.meetings("a", "b"), game.first_meetings, lambda: game.company("a"), game.fall_order,
            kept.game_names, lambda: commands.split_words("take g a"),
            lambda: session.Session().run("games"), lambda: texts.parse_times("times 0 -\nclass 1 4"),
            lambda: texts.parse_never("never\nx"), lambda: enlarged.reduced(table, rows),
            lambda: crowds.half_meetings(table, one, ("d", *one[1:])),
            lambda: crowds.all_together(table, rows[:1]), lambda: crowds.all_together(table, rows),
            lambda: crowds.crowd_at(table, rows, 4), lambda: watches.passes(table, one, (2, 2), self.times),
            lambda: watches.meets_while(table, one, other, self.times),
            lambda: watches.passes_to(table, rows, (2, 2), 30),
        ]

    def lists_in(self, told):
        """Return all lists in what a call told."""
        if isinstance(told, (times.Times, tables.Table)):
            return self.lists_in(tuple(vars(told).values()))
        if not isinstance(told, (list, tuple)):
            return []
        return [told] * isinstance(told, list) + [row for part in told for row in self.lists_in(part)]

    def test_each_list_is_new(self):
        known = [self.balls, self.points, self.classes, self.times.classes]
        for call in self.calls():
            for found in (self.lists_in(call()), self.lists_in(call())):
                self.assertGreater(len(found), 0)
                for row in found:
                    self.assertFalse(any(row is other for other in known))
                known += found

    def test_a_list_that_is_changed_changes_no_answer(self):
        for call in self.calls():
            expected = copy.deepcopy(self.lists_in(call()))
            for row in self.lists_in(call()):
                row.clear()
            self.assertEqual(self.lists_in(call()), expected)


if __name__ == "__main__":
    unittest.main()
