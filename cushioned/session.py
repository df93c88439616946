"""Sessions: a book that is used by lines of text."""

from cushioned.book import Book
from cushioned.commands import is_command, split_words
from cushioned.errors import (
    InvalidBall,
    InvalidNotation,
    InvalidQuestion,
    InvalidTable,
    NothingToRedo,
    NothingToUndo,
    UnknownName,
)
from cushioned.notation import format_setup, parse_setup, read_ball

DONE = "ok"


def put(book, name, *words):
    """Put the ball that the words write into a game."""
    book.put_ball(name, read_ball(["ball", *words]))
    return [DONE]


def take(book, name, ball_name):
    """Take a ball out of a game."""
    book.take_ball(name, ball_name)
    return [DONE]


def drop(book, name):
    """Drop a game."""
    book.drop_game(name)
    return [DONE]


def where(book, name, minute):
    """Return a line for each ball that is on the table at the minute."""
    return [f"{ball} {x} {y}" for ball, (x, y) in book.game(name).places(int(minute))]


def meet(book, name, one, other, minute):
    """Return a line with the first meeting of two balls from the minute on."""
    first = book.game(name).meetings(one, other).next_from(int(minute))
    return ["never" if first is None else str(first)]


def first_meetings(book, name):
    """Return a line for each first meeting of the report."""
    _, meetings = book.report(name)
    return [f"{minute} {one} {other}" for minute, one, other in meetings]


def fall_order(book, name):
    """Return a line for each fall of the report."""
    falls, _ = book.report(name)
    return [f"{minute} {ball}" for minute, ball in falls]


def printed(book, name):
    """Return the lines of the written form of a game."""
    game = book.game(name)
    return format_setup(game.table, game.balls).split("\n")


def undo(book):
    """Take back the last change."""
    book.undo()
    return [DONE]


def redo(book):
    """Make the change again that was taken back last."""
    book.redo()
    return [DONE]


def games(book):
    """Return the line of the names of all games."""
    names = book.game_names()
    return [" ".join(["games:", *names])]


# What the commands do that need no more than the book.
ACTIONS = {
    "put": put,
    "take": take,
    "drop": drop,
    "where": where,
    "meet": meet,
    "first": first_meetings,
    "falls": fall_order,
    "print": printed,
    "undo": undo,
    "redo": redo,
    "games": games,
}


class Session:
    """A book, and the block of lines that is not closed yet, if there is one."""

    def __init__(self):
        self.book = Book()
        self._block_name = None
        self._block_lines = []

    def run(self, text):
        """Do the lines of the text in order and return the list of all lines that they answer."""
        answers = []
        for number, line in enumerate(text.split("\n"), 1):
            words = split_words(line)
            if words:
                answers.extend(self.answers_to(number, words))
        return answers

    def answers_to(self, number, words):
        """Do a line and return the lines that it answers."""
        if self._block_name is None and not is_command(words):
            return [f"line {number}: invalid command"]
        try:
            return self.answers_done(words)
        except UnknownName as unknown:
            why = f"unknown name {unknown.name}"
        except InvalidNotation as wrong:
            why = f"invalid notation {wrong.line}"
        except InvalidTable:
            why = "invalid table"
        except InvalidBall:
            why = "invalid ball"
        except InvalidQuestion:
            why = "invalid question"
        except NothingToUndo:
            why = "nothing to undo"
        except NothingToRedo:
            why = "nothing to redo"
        return [f"line {number}: {why}"]

    def answers_done(self, words):
        """Do a line of a block or a command and return what it answers, if it raises no error."""
        if self._block_name is not None:
            return self.in_block(words)
        word, *rest = words
        if word == "game":
            self._block_name = rest[0]
            return [DONE]
        action = ACTIONS[word]
        return action(self.book, *rest)

    def in_block(self, words):
        """Take the line into the block, or close the block and set its game."""
        if words != ["end"]:
            self._block_lines.append(" ".join(words))
            return []
        name, text = self._block_name, "\n".join(self._block_lines)
        # An error closes the block, too, so it is closed ahead of all that can raise one.
        self._block_name = None
        self._block_lines = []
        table, balls = parse_setup(text)
        self.book.set_game(name, table, balls)
        return [DONE]
