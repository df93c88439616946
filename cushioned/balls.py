"""Balls: what they are, and the same ball run back, mirrored or turned."""

from cushioned.errors import InvalidBall

LETTERS = "abcdefghijklmnopqrstuvwxyz"
DIGITS = "0123456789"
STEPS = (-1, 0, 1)
LONGEST_NAME = 12
LATEST_START = 10 ** 30
MOST_BALLS = 12


def is_name(text):
    """Tell whether the string is a name."""
    if not 1 <= len(text) <= LONGEST_NAME or text[0] not in LETTERS:
        return False
    return all([sign in LETTERS + DIGITS for sign in text])


def is_integer(part):
    """Tell whether the value is an integer."""
    return isinstance(part, int) and not isinstance(part, bool)


def is_ball(table, ball):
    """Tell whether the tuple is a ball on the table."""
    if len(ball) != 6:
        return False
    name, x, y, dx, dy, minute = ball
    # Any tuple may be asked about, so the kinds come before what compares the parts.
    if not isinstance(name, str) or not all([is_integer(part) for part in ball[1:]]):
        return False
    if dx not in STEPS or dy not in STEPS or (dx, dy) == (0, 0):
        return False
    return is_name(name) and table.is_point((x, y)) and 0 <= minute <= LATEST_START


def check_ball(table, ball):
    """Raise InvalidBall if the tuple is no ball on the table."""
    if not is_ball(table, ball):
        raise InvalidBall("the tuple is no ball on the table")


def check_balls(table, balls):
    """Raise InvalidBall if the tuples cannot be the balls of one list on the table."""
    for ball in balls:
        check_ball(table, ball)
    if len(balls) > MOST_BALLS:
        raise InvalidBall("there are more than 12 balls")
    if len({ball[0] for ball in balls}) < len(balls):
        raise InvalidBall("two balls have the same name")


def back(table, ball):
    """Return the ball run back."""
    check_ball(table, ball)
    name, x, y, dx, dy, minute = ball
    return (name, x, y, -dx, -dy, minute)


def mirrored(table, ball, *, sides=True, ends=True):
    """Return the ball mirrored left and right (`sides`), and below and above (`ends`)."""
    check_ball(table, ball)
    name, x, y, dx, dy, minute = ball
    if sides:
        x, dx = table.width - x, -dx
    if ends:
        y, dy = table.height - y, -dy
    return (name, x, y, dx, dy, minute)


def turned(table, ball):
    """Return the ball with x and y exchanged, a ball on the turned table."""
    check_ball(table, ball)
    name, x, y, dx, dy, minute = ball
    return (name, y, x, dy, dx, minute)
