"""Watches: which balls pass a point, when they do, and when the point is clear."""

from cushioned.balls import check_balls
from cushioned.errors import InvalidQuestion
from cushioned.meetings import at_point, meetings
from cushioned.times import both

FARTHEST_END = 10000


def passes(table, ball, point, times):
    """Return the Times of the minutes of a set at which the ball is at the point."""
    return both(at_point(table, ball, point), times)


def meets_while(table, one, other, times):
    """Return the Times of the minutes of a set at which two balls meet."""
    return both(meetings(table, one, other), times)


def first_pass(table, balls, point, minute):
    """Return the first minute from a minute on at which a ball is at the point and its name, or None."""
    check_watch(table, balls, point, [minute])
    return first_of(stays_at(table, balls, point), minute)


def passes_to(table, balls, point, minute):
    """Return each name with the number of minutes up to a minute at which the ball is at the point."""
    check_watch(table, balls, point, [minute])
    return [(name, times.number_to(minute)) for name, times in stays_at(table, balls, point)]


def is_clear(table, balls, point, start, end):
    """Tell whether no ball is at the point at any minute from a start to an end."""
    check_watch(table, balls, point, [start, end])
    found = first_of(stays_at(table, balls, point), start)
    return found is None or found[0] > end


def first_slot(table, balls, point, start, end, length):
    """Return the first minute from which on the point is clear for so many minutes up to an end, or None."""
    check_watch(table, balls, point, [start, end])
    if length < 1 or end > start + FARTHEST_END:
        raise InvalidQuestion("a length is at least 1 and an end at most 10000 minutes behind its start")
    stays = stays_at(table, balls, point)
    while start + length - 1 <= end:
        found = first_of(stays, start)
        if found is None or found[0] >= start + length:
            return start
        start = found[0] + 1
    return None


def check_watch(table, balls, point, minutes):
    """Raise InvalidBall or InvalidQuestion if the balls, the point or the minutes are not right."""
    check_balls(table, balls)
    table.check_point(point)
    if min(minutes) < 0:
        raise InvalidQuestion("a minute is below 0")


def stays_at(table, balls, point):
    """Return each name with the Times of the minutes at which the ball is at the point."""
    return [(ball[0], at_point(table, ball, point)) for ball in balls]


def first_of(stays, minute):
    """Return the first minute from a minute on at which one of the balls is there and its name, or None."""
    firsts = [(times.next_from(minute), name) for name, times in stays]
    # Of several balls at one minute the first one in the list is told, whatever the names are.
    return min([row for row in firsts if row[0] is not None], key=lambda row: row[0], default=None)
