"""The written form of a table with balls."""

from cushioned.balls import DIGITS, check_balls, is_name
from cushioned.errors import InvalidNotation
from cushioned.tables import Table

MOST_DIGITS = 31
STEP_WORDS = {"-1": -1, "0": 0, "1": 1}
# The first words that a line may have, by the first word of the line ahead of it.
NEXT_WORDS = {
    "": ("table",),
    "table": ("pocket", "ball"),
    "pocket": ("pocket", "ball"),
    "ball": ("ball",),
}


def format_setup(table, balls):
    """Return the written form of the table with the balls."""
    lines = [f"table {table.width} {table.height}"]
    for x, y in table.pockets:
        lines.append(f"pocket {x} {y}")
    for name, x, y, dx, dy, minute in balls:
        lines.append(f"ball {name} {x} {y} {dx} {dy} {minute}")
    return "\n".join(lines)


def parse_setup(text):
    """Return the table and the list of the balls whose written form is the text."""
    rows = [line.split(" ") for line in text.split("\n")]
    check_form(rows)
    pockets = [read_pair(row) for row in rows if row[0] == "pocket"]
    balls = [read_ball(row) for row in rows if row[0] == "ball"]
    width, height = read_pair(rows[0])
    table = Table(width, height, pockets)
    check_balls(table, balls)
    return (table, balls)


def check_form(rows):
    """Raise InvalidNotation for the first line, a list of words, that cannot stand where it stands."""
    ahead = ""
    for number, words in enumerate(rows, 1):
        if words[0] not in NEXT_WORDS[ahead] or not is_line(words):
            raise InvalidNotation(number)
        ahead = words[0]


def is_line(words):
    """Tell whether the words behind the first one are those that it asks for."""
    if words[0] == "ball":
        return is_ball_line(words)
    return len(words) == 3 and is_number(words[1]) and is_number(words[2])


def is_ball_line(words):
    """Tell whether the words behind the first one write the parts of a ball."""
    if len(words) != 7:
        return False
    _, name, x, y, dx, dy, minute = words
    if dx not in STEP_WORDS or dy not in STEP_WORDS:
        return False
    return is_name(name) and is_number(x) and is_number(y) and is_number(minute)


def is_number(word, most_digits=MOST_DIGITS):
    """Tell whether the word is an integer from 0 on with no more than so many digits."""
    if word == "0":
        return True
    if not 1 <= len(word) <= most_digits or word[0] == "0":
        return False
    return all([sign in DIGITS for sign in word])


def read_pair(words):
    """Return the two integers behind the first word."""
    return (int(words[1]), int(words[2]))


def read_ball(words):
    """Return the tuple that a line of a ball writes."""
    _, name, x, y, dx, dy, minute = words
    return (name, int(x), int(y), STEP_WORDS[dx], STEP_WORDS[dy], int(minute))
