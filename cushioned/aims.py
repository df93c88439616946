"""Aims: in which direction to put a ball, so that it falls, meets or passes."""

from cushioned.balls import LATEST_START, check_ball
from cushioned.errors import InvalidQuestion
from cushioned.falls import fall_of
from cushioned.meetings import at_point, first_meeting

DIRECTIONS = ((-1, -1), (-1, 0), (-1, 1), (0, -1), (0, 1), (1, -1), (1, 0), (1, 1))


def pocket_aims(table, point, minute, pocket):
    """Return the aims whose balls fall into the pocket, with the minutes at which they fall."""
    check_aim(table, point, minute)
    if not table.is_pocket(pocket):
        raise InvalidQuestion("there is no pocket at this point")
    rows = [(fall_of(table, ball), direction) for ball, direction in aimed(point, minute)]
    return sorted([
        (fall[0], direction)
        for fall, direction in rows if fall is not None and fall[1] == tuple(pocket)
    ])


def meeting_aims(table, point, minute, ball):
    """Return the aims whose balls ever meet the ball, with the first minutes at which they do."""
    check_aim(table, point, minute)
    rows = [(first_meeting(table, aim, ball), direction) for aim, direction in aimed(point, minute)]
    return sorted([row for row in rows if row[0] is not None])


def in_order(table, ball, points):
    """Return the first minutes at which the ball passes the points in order, or None."""
    check_ball(table, ball)
    for point in points:
        table.check_point(point)
    minutes = []
    start = ball[5]
    for point in points:
        minute = at_point(table, ball, point).next_from(start)
        if minute is None:
            return None
        minutes.append(minute)
        start = minute + 1
    return minutes


def order_aims(table, point, minute, points):
    """Return the aims whose balls pass the points in order, with the last one of the first minutes."""
    check_aim(table, point, minute)
    rows = [(in_order(table, ball, points), direction) for ball, direction in aimed(point, minute)]
    return sorted([
        (minutes[-1] if minutes else minute, direction)
        for minutes, direction in rows if minutes is not None
    ])


def check_aim(table, point, minute):
    """Raise InvalidQuestion if no ball can be put at the point at the minute."""
    table.check_point(point)
    if not 0 <= minute <= LATEST_START:
        raise InvalidQuestion("a ball is put at a minute from 0 to 10 ** 30")


def aimed(point, minute):
    """Return a ball that is put at the point at the minute, for each direction, with the direction."""
    return [(("aim", *point, *direction, minute), direction) for direction in DIRECTIONS]
