"""Meetings: when balls are at a point, and when two or three of them are at one."""

from cushioned.balls import check_ball
from cushioned.congruences import common, meeting_classes
from cushioned.errors import InvalidQuestion
from cushioned.runs import passing, unfolded
from cushioned.times import Times, both


def at_point(table, ball, point):
    """Return the Times of the minutes at which the ball is at the point."""
    classes = passing(table, ball, point)
    return Times(ball[5], None, classes)


def meetings(table, one, other):
    """Return the Times of the minutes at which two balls meet."""
    x, y = part_meetings(table, one, other)
    return Times(max(one[5], other[5]), None, common(x, y))


def part_meetings(table, one, other):
    """Return the classes of the minutes at which two balls have the same x, and the same y."""
    check_ball(table, one)
    check_ball(table, other)
    return [
        meeting_classes(size, at, step, place, move)
        for (at, step, size), (place, move, _) in zip(unfolded(table, one), unfolded(table, other))
    ]


def all_meet(table, balls):
    """Return the Times of the minutes at which two or three balls are all at one point."""
    for ball in balls:
        check_ball(table, ball)
    if len(balls) not in (2, 3):
        raise InvalidQuestion("two or three balls are asked about")
    first = meetings(table, balls[0], balls[1])
    if len(balls) == 2:
        return first
    return both(first, meetings(table, balls[1], balls[2]))


def first_meeting(table, one, other, *, minute=0):
    """Return the first minute from a minute on at which two balls meet, or None."""
    return meetings(table, one, other).next_from(minute)
