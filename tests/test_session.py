"""Points 58 to 62, and the class of cushioned.session."""

import unittest

from cushioned.book import Book
from cushioned.notation import format_setup
from cushioned.session import Session
from cushioned.tables import Table

from walks import games_on, tables_with_pockets, turns, walked_fall, walked_meetings, walked_stays

FORM = "table 4 2\npocket 4 2\nball a 0 0 1 1 0\nball b 4 0 -1 1 0\nball c 2 2 1 0 1"
BLOCK = "game g\n" + FORM + "\nend"
GREAT = "1" + "0" * 30
INVALID = "invalid command"
# Lines that are no commands, by the words alone.
NO_COMMANDS = [
    "end", "table 4 2", "ball a 0 0 1 1 0", "game", "game G", "game g h", "put g d 1 1 1 0", "GAMES",
    "put g d 1 1 1 0 0 0", "put g D 1 1 1 0 0", "put g d 01 1 1 0 0", "put g d 1 1 2 0 0",
    "put g d 1 1 +1 0 0", "take g", "take g a b", "drop", "drop g h", "where g", "where g 01",
    "where g " + "1" * 32, "where g -1", "meet g a b", "meet g a 0", "meet g a b 0 0", "first", "falls",
    "print", "undo g", "redo 1", "games g", "Undo", "undo\t", "report g", "g", "0",
]


def a_session():
    """Return a session with the game g."""
    session = Session()
    session.run(BLOCK)
    return session


class SessionCase(unittest.TestCase):
    def assert_answers(self, session, text, *answers):
        found = session.run(text)
        self.assertEqual(found, list(answers), text)
        self.assertIs(type(found), list)


class LinesTest(SessionCase):
    """Point 58."""

    def test_a_session_has_an_empty_book(self):
        session = Session()
        self.assertIs(type(session.book), Book)
        self.assertEqual(session.book.game_names(), [])
        self.assertIsNot(Session().book, session.book)

    def test_spaces_between_words_and_at_both_ends(self):
        session = a_session()
        for line in ("where g 1", " where g 1", "where g 1  ", "   where   g  1 "):
            self.assert_answers(session, line, "a 1 1", "b 3 1", "c 2 2")

    def test_lines_without_words_have_a_number(self):
        for text in ("", "\n", "  ", "\n\n  \n"):
            self.assert_answers(Session(), text)
        self.assert_answers(Session(), "\nx\n\n   \ny z\n", "line 2: " + INVALID, "line 5: " + INVALID)

    def test_each_call_counts_from_one(self):
        session = Session()
        for _ in range(3):
            self.assert_answers(session, "games\nx", "games:", "line 2: " + INVALID)

    def test_other_signs_are_no_spaces(self):
        for line in ("drop\tg", "drop g\r", "\tgames", "games\u00a0"):
            self.assert_answers(a_session(), line, "line 1: " + INVALID)


class BlocksTest(SessionCase):
    """Point 60."""

    def test_in_one_call(self):
        session = Session()
        self.assert_answers(session, BLOCK, "ok", "ok")
        self.assertEqual(session.book.game_names(), ["g"])
        game = session.book.game("g")
        self.assertEqual(format_setup(game.table, list(game.balls)), FORM)

    def test_over_several_calls(self):
        session = Session()
        for line in BLOCK.split("\n")[:-1]:
            self.assert_answers(session, line, *(["ok"] if line == "game g" else []))
            self.assertEqual(session.book.game_names(), [])
        self.assert_answers(session, "")
        self.assert_answers(session, "end\nprint g", "ok", *FORM.split("\n"))
        session.run("game h\ntable 1 1")
        self.assert_answers(session, "pocket 0 0\nend\nprint h", "ok", "table 1 1", "pocket 0 0")

    def test_spaces_and_empty_lines(self):
        session = Session()
        text = "\n  game   g \n\n   " + FORM.replace(" ", "   ").replace("\n", "  \n\n   \n ") + "\n  end  \n"
        self.assert_answers(session, text, "ok", "ok")
        self.assert_answers(session, "print g", *FORM.split("\n"))

    def test_lines_that_are_commands_are_taken(self):
        for line in (
            "games", "undo", "game h", "drop f", "where f 0", "x", "end end", "END", "end\t", "print f",
        ):
            session = Session()
            self.assert_answers(session, "game f\ntable 1 1\nend", "ok", "ok")
            text = "game g\ntable 4 2\n" + line + "\nball a 0 0 1 1 0\nend\ngames"
            self.assert_answers(session, text, "ok", "line 5: invalid notation 2", "games: f")

    def test_forms_that_are_none(self):
        for lines, wrong in (
            ([], 1), (["x"], 1), (["pocket 0 0"], 1), (["table 4"], 1), (["table 4 02"], 1),
            (["table 4 2", "ball a 0 0 1 1 0", "pocket 0 0"], 3), (["table 4 2", "table 4 2"], 2),
            (["table 4 2", "ball A 0 0 1 1 0"], 2), (["table 9 9", "ball a 99 0 0 0 0", "ball"], 3),
        ):
            for between in ("\n", "\n\n", " \n  \n\n"):
                session = Session()
                text = between.join(["game g", *lines, "end"])
                number = len(text.split("\n"))
                self.assert_answers(session, text, "ok", f"line {number}: invalid notation {wrong}")
                self.assert_answers(session, "games\nend", "games:", "line 2: " + INVALID)

    def test_the_number_of_the_taken_line_over_two_calls(self):
        session = Session()
        self.assert_answers(session, "\n\ngame g\n\ntable 4 2\n\n", "ok")
        self.assert_answers(
            session, "\nball a 0 0 1 1 0\npocket 0 0\nx\n\nend", "line 6: invalid notation 3")

    def test_forms_that_make_no_table_or_no_balls(self):
        for form, why in (
            ("table 0 2", "invalid table"), ("table 4 2\npocket 5 2", "invalid table"),
            ("table 4 2\npocket 0 0\npocket 0 0\nball a 9 9 1 1 0", "invalid table"),
            ("table 4 " + GREAT[:-1] + "1", "invalid table"),
            ("table 4 2\nball a 5 0 1 1 0", "invalid ball"), ("table 4 2\nball a 0 0 0 0 0", "invalid ball"),
            ("table 4 2\nball a 0 0 1 1 0\nball a 1 0 1 1 0", "invalid ball"),
            ("table 4 2" + "".join(f"\nball b{k} 0 0 1 1 0" for k in range(13)), "invalid ball"),
        ):
            session = a_session()
            text = "game g\n" + form + "\nend\nprint g\nundo\nundo"
            number = 2 + len(form.split("\n"))
            self.assert_answers(
                session, text, "ok", f"line {number}: {why}", *FORM.split("\n"), "ok",
                f"line {number + 3}: nothing to undo")

    def test_a_failed_block_does_not_leave_its_lines(self):
        session = Session()
        self.assert_answers(session, "game g\nx\nend", "ok", "line 3: invalid notation 1")
        self.assert_answers(session, "game g\ntable 1 1\nend\nprint g", "ok", "ok", "table 1 1")
        self.assert_answers(session, "game h\ntable 2 2\nend\nprint h", "ok", "ok", "table 2 2")

    def test_a_game_that_is_replaced(self):
        session = a_session()
        self.assert_answers(session, "game g\ntable 9 9\nend\nprint g\ngames", "ok", "ok", "table 9 9", "games: g")
        self.assert_answers(session, "undo\nprint g", "ok", *FORM.split("\n"))
        self.assert_answers(session, "redo\nprint g", "ok", "table 9 9")

    def test_an_open_block_changes_nothing(self):
        session = a_session()
        session.run("undo\ngame h\ntable 1 1")
        self.assertEqual(session.book.game_names(), [])
        session.book.redo()
        self.assertEqual(session.book.game_names(), ["g"])


class AnswersTest(SessionCase):
    """Point 61."""

    def test_changes_answer_ok(self):
        session = a_session()
        self.assert_answers(session, "put g d 1 2 0 -1 7\ntake g a\ndrop g\nundo\nredo", *["ok"] * 5)
        self.assert_answers(session, "undo\nprint g", "ok", *[
            line for line in FORM.split("\n") if not line.startswith("ball a")], "ball d 1 2 0 -1 7")

    def test_put_and_take(self):
        session = Session()
        session.run("game g\ntable " + GREAT + " 3\nend")
        text = f"put g red {GREAT} 3 -1 1 {GREAT}\nput g a 0 0 0 -1 0"
        self.assert_answers(session, text, "ok", "ok")
        self.assertEqual(
            session.book.game("g").balls,
            (("red", 10 ** 30, 3, -1, 1, 10 ** 30), ("a", 0, 0, 0, -1, 0)))
        self.assert_answers(session, "take g red\nprint g", "ok", f"table {GREAT} 3", "ball a 0 0 0 -1 0")

    def test_where(self):
        session = a_session()
        self.assert_answers(session, "where g 0", "a 0 0", "b 4 0")
        self.assert_answers(session, "where g 3", "a 3 1", "b 1 1", "c 4 2")
        self.assert_answers(session, "where g 4", "a 4 0", "b 0 0")
        self.assert_answers(session, "where g " + "9" * 31, "a 1 1", "b 3 1")

    def test_meet(self):
        session = a_session()
        for minute, answer in ((0, "2"), (2, "2"), (3, "6"), (6, "6"), (7, "10")):
            self.assert_answers(session, f"meet g a b {minute}", answer)
            self.assert_answers(session, f"meet g b a {minute}", answer)
        self.assert_answers(session, "meet g a c 0\nmeet g c b 0", "never", "never")
        self.assert_answers(session, "meet g a b 1" + "0" * 30, str(10 ** 30 + 2))

    def test_first_and_falls(self):
        session = a_session()
        self.assert_answers(session, "first g", "2 a b")
        self.assert_answers(session, "falls g", "3 c")
        session.run("put g d 4 2 1 1 9\nput g e 0 0 1 1 0")
        self.assert_answers(session, "first g", "0 a e", "2 a b", "2 b e")
        self.assert_answers(session, "falls g", "3 c", "9 d")

    def test_nothing_to_tell(self):
        session = Session()
        self.assert_answers(session, "games", "games:")
        session.run("game g\ntable 4 2\nend")
        self.assert_answers(session, "where g 0\nfirst g\nfalls g")
        self.assert_answers(session, "print g", "table 4 2")
        session.run("put g late 0 0 1 0 5")
        self.assert_answers(session, "where g 4")

    def test_games(self):
        session = Session()
        for name in ("m", "z", "a", "ab", "b2", "b10"):
            session.run("game " + name + "\ntable 1 1\nend")
        self.assert_answers(session, "games", "games: a ab b10 b2 m z")

    def test_print_gives_the_form_back(self):
        for table in tables_with_pockets()[::9]:
            for balls in games_on(table, 4):
                form = format_setup(table, balls)
                session = Session()
                self.assert_answers(session, "game g\n" + form + "\nend", "ok", "ok")
                self.assert_answers(session, "print g", *form.split("\n"))

    def test_first_and_falls_ask_for_the_report_once_each(self):
        session = a_session()
        self.assertEqual((session.book.decided, session.book.kept), (0, 0))
        for text, counts in (
            ("first g", (1, 0)), ("falls g", (1, 1)), ("falls g\nfirst g", (1, 3)),
            ("where g 0\nmeet g a b 0\nprint g\ngames", (1, 3)), ("put g d 1 1 1 1 0\nfalls g", (2, 3)),
            ("undo\nfirst g", (2, 4)), ("redo\nfalls g", (2, 5)), ("first x\nfalls x", (2, 5)),
            (BLOCK + "\nfalls g", (3, 5)),
        ):
            session.run(text)
            self.assertEqual((session.book.decided, session.book.kept), counts)

    def test_against_a_walk(self):
        for table in tables_with_pockets()[::7]:
            for balls in games_on(table, 4)[::2]:
                session = Session()
                session.run("game g\n" + format_setup(table, balls) + "\nend")
                stays = walked_stays(table, balls, 12 + turns(table))
                for minute in (0, 3, 12):
                    expected = [
                        "{} {} {}".format(name, *places[minute])
                        for name, places in stays.items() if minute in places]
                    self.assert_answers(session, f"where g {minute}", *expected)
                expected = ["{} {} {}".format(*row) for row in walked_meetings(stays, 0)]
                self.assert_answers(session, "first g", *expected)
                falls = [(walked_fall(table, ball), ball[0]) for ball in balls]
                rows = sorted((fall[0], at, name) for at, (fall, name) in enumerate(falls) if fall)
                self.assert_answers(session, "falls g", *[f"{minute} {name}" for minute, _, name in rows])


class ErrorsTest(SessionCase):
    """Point 62."""

    def assert_each(self, session, lines, why):
        """Compare the answer to each line, in a first and a second call; it is to change nothing."""
        for line in lines:
            before = session.run("games\nprint g")
            for text, number in ((line, 1), ("\n\n " + line, 3), ("games\n" + line, 2)):
                self.assertEqual(session.run(text)[-1], f"line {number}: {why}", text)
            self.assert_answers(session, "games\nprint g", *before)

    def test_lines_that_are_no_command(self):
        self.assert_each(a_session(), NO_COMMANDS, INVALID)
        session = Session()
        for line in NO_COMMANDS:
            self.assert_answers(session, line, "line 1: " + INVALID)
        self.assertEqual(session.book.game_names(), [])

    def test_unknown_names(self):
        session = a_session()
        self.assert_each(session, [
            "put x d 1 1 1 0 0", "put x d 9 9 0 0 0", "take x a", "drop x", "where x 0", "meet x a b 0",
            "meet x y z 0", "first x", "falls x", "print x",
        ], "unknown name x")
        self.assert_each(session, [
            "take g y", "meet g y z 0", "meet g a y 0", "meet g y a 0", "meet g y y 0", "print y",
        ], "unknown name y")

    def test_invalid_balls(self):
        self.assert_each(a_session(), [
            "put g d 5 0 1 1 0", "put g d 0 3 1 1 0", "put g d 0 0 0 0 0", "put g a 0 0 1 1 0",
            "put g d 0 0 1 1 " + GREAT[:-1] + "1", "put g d " + GREAT + " 0 1 1 0",
        ], "invalid ball")
        session = a_session()
        for k in range(9):
            self.assert_answers(session, f"put g d{k} 0 0 1 1 0", "ok")
        self.assert_each(session, ["put g d 0 0 1 1 0"], "invalid ball")

    def test_invalid_questions(self):
        self.assert_each(a_session(), ["meet g a a 0", "meet g c c 5"], "invalid question")

    def test_nothing_to_undo_and_to_redo(self):
        session = a_session()
        self.assert_each(session, ["redo"], "nothing to redo")
        self.assert_answers(
            session, "undo\nundo\nundo\nredo\nredo\nredo", "ok", "line 2: nothing to undo",
            "line 3: nothing to undo", "ok", "line 5: nothing to redo", "line 6: nothing to redo")
        self.assert_answers(Session(), "redo\nundo", "line 1: nothing to redo", "line 2: nothing to undo")

    def test_the_lines_behind_it_are_done_as_usual(self):
        session = a_session()
        text = "x\ngames\nput g d 9 9 1 1 0\nput g d 1 1 1 1 0\nmeet g a a 0\nredo\nwhere h 0\ntake g d\nend\nundo"
        self.assert_answers(
            session, text, "line 1: " + INVALID, "games: g", "line 3: invalid ball", "ok",
            "line 5: invalid question", "line 6: nothing to redo", "line 7: unknown name h", "ok",
            "line 9: " + INVALID, "ok")
        self.assert_answers(session, "print g", *FORM.split("\n"), "ball d 1 1 1 1 0")

    def test_an_error_leaves_what_can_be_redone(self):
        session = a_session()
        session.run("put g d 1 1 1 1 0\nundo")
        session.run("put g d 9 9 1 1 0\ntake g x\ndrop x\nx\ngame g\nend")
        self.assert_answers(session, "redo", "ok")

    def test_a_block_closes_with_the_number_of_its_end(self):
        session = a_session()
        self.assert_answers(
            session, "games\ngame h\ntable 4 2\n\nball a 9 9 1 1 0\nend\ngames\nend",
            "games: g", "ok", "line 6: invalid ball", "games: g", "line 8: " + INVALID)


class InterfaceTest(SessionCase):
    def test_example(self):
        self.assert_answers(
            Session(),
            "game g\ntable 4 2\nball a 0 0 1 1 0\nball b 4 0 -1 1 0\nend\nmeet g a b 0\nmeet g a b 3\n"
            "put g c 1 1 0 0 0\nwhere g 5",
            "ok", "ok", "2", "6", "line 8: invalid ball", "a 3 1", "b 1 1")

    def test_sessions_do_not_share_a_book(self):
        a_session()
        self.assert_answers(Session(), "games", "games:")


if __name__ == "__main__":
    unittest.main()
