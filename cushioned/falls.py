"""Falls: which balls fall into which pockets, and when."""

from cushioned.balls import check_ball, check_balls
from cushioned.runs import point_minutes


def first_fall(table, ball):
    """Return the minute at which the ball falls, or None."""
    fall = fall_of(table, ball)
    return None if fall is None else fall[0]


def fall_of(table, ball):
    """Return the minute at which the ball falls and the pocket, or None."""
    check_ball(table, ball)
    stands = [
        (minute, pocket)
        for pocket in table.pockets for minute, _ in point_minutes(table, ball, pocket)
    ]
    return min(stands, default=None)


def falls(table, balls):
    """Return minute, name and pocket of all balls that fall, by minutes and then in their order."""
    check_balls(table, balls)
    found = [(ball[0], fall_of(table, ball)) for ball in balls]
    rows = [(fall[0], name, fall[1]) for name, fall in found if fall is not None]
    return sorted(rows, key=lambda row: row[0])


def never_fall(table, balls):
    """Return the names of the balls that never fall, in their order."""
    check_balls(table, balls)
    return [ball[0] for ball in balls if fall_of(table, ball) is None]
