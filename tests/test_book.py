"""Points 55 to 57, and the class of cushioned.book."""

import unittest

from cushioned.book import Book
from cushioned.errors import CushionedError, InvalidBall, NothingToRedo, NothingToUndo, UnknownName
from cushioned.games import Game
from cushioned.tables import Table

from walks import games_on, tables_with_pockets, turns, walked_fall, walked_meetings, walked_stays

TABLE = Table(4, 2, [(4, 2)])
OTHER = Table(3, 3)
BALLS = [("a", 0, 0, 1, 1, 0), ("b", 4, 0, -1, 1, 0), ("c", 2, 2, 1, 0, 1)]
RED = ("red", 1, 0, 1, 1, 5)
NO_BALL = ("red", 9, 9, 1, 1, 5)
FALLS = ((3, "c"),)
FIRST = ((2, "a", "b"),)


def content(book):
    """Return all that is defined in the book."""
    return [(name, book.game(name).table, book.game(name).balls) for name in book.game_names()]


def histories(book):
    """Return what is defined behind each undo and each redo that can be made, and bring all back."""
    back, onward = [content(book)], []
    while True:
        try:
            book.undo()
        except NothingToUndo:
            break
        back.append(content(book))
    for _ in back[1:]:
        book.redo()
    while True:
        try:
            book.redo()
        except NothingToRedo:
            break
        onward.append(content(book))
    for _ in onward:
        book.undo()
    return (back, onward)


def a_book():
    """Return a book with changes that can be taken back, and others that can be made again."""
    book = Book()
    book.set_game("g", TABLE, BALLS)
    book.set_game("f", OTHER, [])
    book.put_ball("f", RED)
    book.take_ball("g", "b")
    book.drop_game("f")
    book.set_game("h", OTHER, BALLS[:1])
    book.undo()
    book.undo()
    return book


class BookCase(unittest.TestCase):
    def assert_raises(self, kind, name, ask, *arguments):
        """Assert that the call raises the error, with the name if one is given."""
        with self.assertRaises(kind) as caught:
            ask(*arguments)
        self.assertIs(type(caught.exception), kind)
        if name is not None:
            self.assertEqual(caught.exception.name, name)

    def assert_unchanged(self, book, kind, name, ask, *arguments):
        """Assert that the call raises the error and changes nothing."""
        before = (histories(book), book.decided, book.kept)
        self.assert_raises(kind, name, ask, *arguments)
        self.assertEqual((histories(book), book.decided, book.kept), before)


class ChangesTest(BookCase):
    """Point 55."""

    def test_a_book_with_nothing_in_it(self):
        book = Book()
        self.assertEqual((book.game_names(), book.decided, book.kept), ([], 0, 0))

    def test_set_game(self):
        book = Book()
        self.assertIsNone(book.set_game("g", TABLE, BALLS))
        self.assertIs(type(book.game("g")), Game)
        self.assertEqual(content(book), [("g", TABLE, tuple(BALLS))])
        self.assertIsNone(book.set_game("f", OTHER, []))
        self.assertIsNone(book.set_game("g", OTHER, [RED]))
        self.assertEqual(content(book), [("f", OTHER, ()), ("g", OTHER, (RED,))])

    def test_the_list_that_is_passed_is_copied(self):
        book, balls = Book(), list(BALLS)
        book.set_game("g", TABLE, balls)
        balls.clear()
        self.assertEqual(book.game("g").balls, tuple(BALLS))

    def test_drop_game(self):
        book = Book()
        book.set_game("g", TABLE, BALLS)
        book.set_game("f", OTHER, [])
        self.assertIsNone(book.drop_game("g"))
        self.assertEqual(content(book), [("f", OTHER, ())])
        self.assert_raises(UnknownName, "g", book.drop_game, "g")

    def test_put_ball(self):
        book = Book()
        book.set_game("g", TABLE, BALLS)
        before = book.game("g")
        self.assertIsNone(book.put_ball("g", RED))
        self.assertEqual(book.game("g").balls, (*BALLS, RED))
        self.assertEqual(before.balls, tuple(BALLS))

    def test_take_ball(self):
        book = Book()
        book.set_game("g", TABLE, BALLS)
        before = book.game("g")
        self.assertIsNone(book.take_ball("g", "b"))
        self.assertEqual(book.game("g").balls, (BALLS[0], BALLS[2]))
        self.assertEqual(before.balls, tuple(BALLS))

    def test_names_are_in_ascending_order(self):
        book = Book()
        for name in ("m", "z9", "z", "a", "ab", "b2", "b10"):
            book.set_game(name, TABLE, [])
        self.assertEqual(book.game_names(), ["a", "ab", "b10", "b2", "m", "z", "z9"])
        book.game_names().clear()
        self.assertEqual(len(book.game_names()), 7)

    def test_errors_of_set_game(self):
        many = [("b" + str(k), 0, 0, 1, 1, k) for k in range(13)]
        for balls in ([NO_BALL], [*BALLS, NO_BALL], [*BALLS, BALLS[1]], many):
            for name in ("g", "f", "new"):
                book = a_book()
                self.assert_unchanged(book, InvalidBall, None, book.set_game, name, TABLE, balls)

    def test_errors_of_the_others(self):
        book = a_book()
        self.assert_unchanged(book, UnknownName, "x", book.drop_game, "x")
        self.assert_unchanged(book, UnknownName, "x", book.put_ball, "x", RED)
        self.assert_unchanged(book, UnknownName, "x", book.put_ball, "x", NO_BALL)
        self.assert_unchanged(book, InvalidBall, None, book.put_ball, "g", NO_BALL)
        self.assert_unchanged(book, InvalidBall, None, book.put_ball, "g", BALLS[0])
        self.assert_unchanged(book, UnknownName, "x", book.take_ball, "x", "y")
        self.assert_unchanged(book, UnknownName, "x", book.take_ball, "x", "a")
        self.assert_unchanged(book, UnknownName, "b", book.take_ball, "g", "b")
        self.assert_unchanged(book, UnknownName, "h", book.game, "h")
        self.assert_unchanged(book, UnknownName, "h", book.report, "h")

    def test_a_thirteenth_ball(self):
        book = Book()
        book.set_game("g", TABLE, [])
        for k in range(12):
            book.put_ball("g", ("b" + str(k), 0, 0, 1, 1, k))
        self.assert_unchanged(book, InvalidBall, None, book.put_ball, "g", RED)


class UndoTest(BookCase):
    """Point 56."""

    def test_through_several_changes(self):
        book = Book()
        seen = [content(book)]
        for change in (
            lambda: book.set_game("g", TABLE, BALLS), lambda: book.set_game("f", OTHER, [RED]),
            lambda: book.put_ball("g", RED), lambda: book.set_game("g", OTHER, BALLS[:1]),
            lambda: book.take_ball("f", "red"), lambda: book.drop_game("g"),
            lambda: book.set_game("g", TABLE, [RED]), lambda: book.drop_game("f"),
            lambda: book.set_game("g", TABLE, [RED]),
        ):
            change()
            seen.append(content(book))
        for expected in seen[-2::-1]:
            self.assertIsNone(book.undo())
            self.assertEqual(content(book), expected)
        self.assert_raises(NothingToUndo, None, book.undo)
        self.assertEqual(content(book), seen[0])
        for expected in seen[1:]:
            self.assertIsNone(book.redo())
            self.assertEqual(content(book), expected)
        self.assert_raises(NothingToRedo, None, book.redo)
        self.assertEqual(content(book), seen[-1])
        self.assertEqual(histories(book), (seen[::-1], []))

    def test_the_game_itself_comes_back(self):
        book = Book()
        book.set_game("g", TABLE, BALLS)
        first = book.game("g")
        book.put_ball("g", RED)
        second = book.game("g")
        book.undo()
        self.assertIs(book.game("g"), first)
        book.redo()
        self.assertIs(book.game("g"), second)

    def test_nothing_to_undo_or_redo_changes_nothing(self):
        book = Book()
        for _ in range(3):
            self.assert_unchanged(book, NothingToUndo, None, book.undo)
            self.assert_unchanged(book, NothingToRedo, None, book.redo)
        book.set_game("g", TABLE, BALLS)
        self.assert_unchanged(book, NothingToRedo, None, book.redo)
        book.undo()
        self.assert_unchanged(book, NothingToUndo, None, book.undo)
        book.redo()
        self.assertEqual(content(book), [("g", TABLE, tuple(BALLS))])

    def test_a_change_that_succeeds_takes_away_what_could_be_redone(self):
        for change in (
            lambda book: book.set_game("g", TABLE, BALLS), lambda book: book.set_game("n", OTHER, []),
            lambda book: book.put_ball("g", RED), lambda book: book.take_ball("g", "a"),
            lambda book: book.drop_game("g"), lambda book: book.change_all([("drop_game", "f")]),
        ):
            book = a_book()
            back, onward = histories(book)
            self.assertEqual((len(back), len(onward)), (5, 2))
            change(book)
            self.assertEqual(histories(book), ([content(book), *back], []))

    def test_undo_and_redo_are_no_changes(self):
        book = a_book()
        back, onward = histories(book)
        book.undo()
        self.assertEqual(histories(book), (back[1:], [back[0], *onward]))
        book.redo()
        book.redo()
        self.assertEqual(histories(book), ([onward[0], *back], onward[1:]))


class ChangeAllTest(BookCase):
    """Point 56."""

    def test_no_changes(self):
        book = a_book()
        before = histories(book)
        self.assertIsNone(book.change_all([]))
        self.assertEqual(histories(book), before)

    def test_each_is_a_change_of_its_own(self):
        changes = [
            ("set_game", "n", TABLE, BALLS), ("put_ball", "n", RED), ("take_ball", "n", "a"),
            ("drop_game", "g"), ("set_game", "n", OTHER, []),
        ]
        one, other = a_book(), a_book()
        self.assertIsNone(one.change_all(changes))
        other.set_game("n", TABLE, BALLS)
        other.put_ball("n", RED)
        other.take_ball("n", "a")
        other.drop_game("g")
        other.set_game("n", OTHER, [])
        self.assertEqual(histories(one), histories(other))
        self.assertEqual(len(histories(one)[0]), 10)
        self.assertEqual(changes[0], ("set_game", "n", TABLE, BALLS))
        self.assertEqual(len(changes), 5)

    def test_one_that_raises_an_error(self):
        good = [("set_game", "n", TABLE, BALLS), ("drop_game", "g"), ("put_ball", "n", RED)]
        for bad, kind, name in (
            (("set_game", "n", TABLE, [NO_BALL]), InvalidBall, None),
            (("drop_game", "x"), UnknownName, "x"),
            (("put_ball", "x", NO_BALL), UnknownName, "x"),
            (("put_ball", "f", NO_BALL), InvalidBall, None),
            (("take_ball", "x", "a"), UnknownName, "x"),
            (("take_ball", "f", "x"), UnknownName, "x"),
        ):
            for at in range(4):
                book = a_book()
                changes = [*good[:at], bad, *good[at:]]
                self.assert_unchanged(book, kind, name, book.change_all, changes)

    def test_the_first_error_is_raised(self):
        book = a_book()
        changes = [("drop_game", "g"), ("drop_game", "g"), ("drop_game", "x")]
        self.assert_unchanged(book, UnknownName, "g", book.change_all, changes)

    def test_an_empty_book(self):
        book = Book()
        changes = [("set_game", "g", TABLE, []), ("drop_game", "x")]
        self.assert_unchanged(book, UnknownName, "x", book.change_all, changes)
        self.assert_raises(NothingToUndo, None, book.undo)

    def test_reports_are_still_kept(self):
        book = a_book()
        book.report("g")
        self.assert_raises(UnknownName, "x", book.change_all, [("put_ball", "g", RED), ("drop_game", "x")])
        book.report("g")
        self.assertEqual((book.decided, book.kept), (1, 1))
        book.change_all([("set_game", "n", TABLE, []), ("drop_game", "n")])
        book.report("g")
        self.assertEqual((book.decided, book.kept), (1, 2))
        book.change_all([("put_ball", "g", RED), ("take_ball", "g", "red")])
        book.report("g")
        self.assertEqual((book.decided, book.kept), (2, 2))
        book.undo()
        book.undo()
        book.report("g")
        self.assertEqual((book.decided, book.kept), (2, 3))


class ReportTest(BookCase):
    """Point 57."""

    def test_against_a_walk(self):
        book = Book()
        asked = 0
        for table in tables_with_pockets()[::3]:
            for balls in games_on(table, 4):
                book.set_game("g", table, balls)
                falls = [(walked_fall(table, ball), ball[0]) for ball in balls]
                rows = [(fall[0], at, name) for at, (fall, name) in enumerate(falls) if fall]
                stays = walked_stays(table, balls, 12 + turns(table))
                expected = (
                    tuple((minute, name) for minute, _, name in sorted(rows)),
                    tuple(walked_meetings(stays, 0)))
                self.assertEqual(book.report("g"), expected)
                asked += 1
                self.assertEqual((book.decided, book.kept), (asked, 0))

    def test_kinds(self):
        book = Book()
        book.set_game("g", TABLE, BALLS)
        report = book.report("g")
        self.assertEqual(report, (FALLS, FIRST))
        kinds = {type(part) for part in (report, *report, report[0][0], report[1][0])}
        self.assertEqual(kinds, {tuple})
        book.set_game("g", OTHER, [])
        self.assertEqual(book.report("g"), ((), ()))

    def assert_counts(self, book, decided, kept, *names):
        """Ask for the reports and compare the counts behind all of them."""
        for name in names:
            book.report(name)
        self.assertEqual((book.decided, book.kept), (decided, kept))

    def test_each_asking_is_counted(self):
        book = Book()
        book.set_game("g", TABLE, BALLS)
        book.set_game("f", TABLE, BALLS)
        self.assert_counts(book, 0, 0)
        self.assert_counts(book, 1, 0, "g")
        self.assert_counts(book, 1, 1, "g")
        self.assert_counts(book, 2, 1, "f")
        self.assert_counts(book, 2, 4, "g", "f", "g")

    def test_a_change_makes_a_new_entry(self):
        book = Book()
        book.set_game("g", TABLE, BALLS)
        self.assert_counts(book, 1, 0, "g")
        book.put_ball("g", RED)
        self.assert_counts(book, 2, 1, "g", "g")
        book.take_ball("g", "red")
        self.assert_counts(book, 3, 2, "g", "g")
        self.assertEqual(book.report("g"), (FALLS, FIRST))

    def test_a_game_that_is_set_as_it_stands(self):
        book = Book()
        book.set_game("g", TABLE, BALLS)
        self.assert_counts(book, 1, 1, "g", "g")
        book.set_game("g", TABLE, BALLS)
        self.assert_counts(book, 2, 2, "g", "g")
        book.drop_game("g")
        book.set_game("g", TABLE, BALLS)
        self.assert_counts(book, 3, 2, "g")

    def test_undo_and_redo_bring_back_the_entries(self):
        book = Book()
        book.set_game("g", TABLE, BALLS)
        self.assert_counts(book, 1, 0, "g")
        book.put_ball("g", RED)
        book.undo()
        self.assert_counts(book, 1, 1, "g")
        book.redo()
        self.assert_counts(book, 2, 1, "g")
        book.undo()
        book.redo()
        self.assert_counts(book, 2, 2, "g")
        book.drop_game("g")
        book.undo()
        self.assert_counts(book, 2, 3, "g")
        book.undo()
        book.undo()
        book.redo()
        self.assert_counts(book, 2, 4, "g")
        book.set_game("g", TABLE, BALLS)
        book.undo()
        self.assert_counts(book, 2, 5, "g")

    def test_an_entry_is_computed_once_wherever_it_is_asked_for(self):
        book = Book()
        book.set_game("g", TABLE, BALLS)
        book.set_game("g", OTHER, [])
        book.undo()
        self.assert_counts(book, 1, 0, "g")
        book.redo()
        self.assert_counts(book, 2, 0, "g")
        book.undo()
        self.assert_counts(book, 2, 1, "g")

    def test_a_change_of_another_game_keeps_the_entry(self):
        book = Book()
        book.set_game("g", TABLE, BALLS)
        self.assert_counts(book, 1, 0, "g")
        book.set_game("f", TABLE, [])
        book.put_ball("f", RED)
        book.drop_game("f")
        self.assert_counts(book, 1, 1, "g")

    def test_unknown_names_count_for_nothing(self):
        book = Book()
        self.assert_raises(UnknownName, "g", book.report, "g")
        book.set_game("g", TABLE, BALLS)
        self.assert_counts(book, 1, 1, "g", "g")
        for name in ("x", "", "G"):
            self.assert_raises(UnknownName, name, book.report, name)
        book.drop_game("g")
        self.assert_raises(UnknownName, "g", book.report, "g")
        self.assertEqual((book.decided, book.kept), (1, 1))

    def test_changes_that_raise_an_error_keep_the_entry(self):
        book = Book()
        book.set_game("g", TABLE, BALLS)
        self.assert_counts(book, 1, 0, "g")
        for word, arguments in (
            ("set_game", ("g", TABLE, [NO_BALL])), ("put_ball", ("g", NO_BALL)), ("take_ball", ("g", "x")),
        ):
            with self.assertRaises(CushionedError):
                getattr(book, word)(*arguments)
        self.assert_counts(book, 1, 1, "g")


if __name__ == "__main__":
    unittest.main()
