"""Crowds: balls at one point, and two balls at one spot behind half of a minute."""

from itertools import combinations

from cushioned.balls import check_ball, check_balls
from cushioned.congruences import ALL, common, meeting_classes
from cushioned.errors import InvalidQuestion
from cushioned.meetings import part_meetings
from cushioned.runs import counted_from, place_at, unfolded
from cushioned.times import Times

MOST_IN_A_CROWD = 6
# The class of the odd numbers.
ODD = (1, 2)


def half_meetings(table, one, other):
    """Return the classes of the minutes behind half of which two balls are at one spot."""
    classes = half_classes(table, one, other)
    return counted_from(max(one[5], other[5]), classes)


def next_half(table, one, other, minute):
    """Return the first minute from a minute on behind half of which two balls are at one spot, or None."""
    classes = half_classes(table, one, other)
    return Times(max(one[5], other[5]), None, classes).next_from(minute)


def half_classes(table, one, other):
    """Return the classes of half_meetings, which hold ahead of the own minutes of the balls, too."""
    check_ball(table, one)
    check_ball(table, other)
    # At twice the size and twice the place, with the same steps, a part needs two minutes for one,
    # so that it is at a point behind half of a minute: behind an odd number of its minutes.
    x, y = [
        meeting_classes(2 * size, 2 * at, step, 2 * place, move)
        for (at, step, size), (place, move, _) in zip(unfolded(table, one), unfolded(table, other))
    ]
    odd = common(common(x, y), [ODD])
    return [(remainder // 2, modulus // 2) for remainder, modulus in odd]


def all_together(table, balls):
    """Return the classes of the minutes at which all balls are together."""
    check_crowd(table, balls)
    return together(table, balls)


def together(table, balls):
    """Return the classes of all_together for balls that are known to be right."""
    x, y = [ALL], [ALL]
    for other in balls[1:]:
        xs, ys = part_meetings(table, balls[0], other)
        x, y = common(x, xs), common(y, ys)
    return counted_from(max([ball[5] for ball in balls]), common(x, y))


def most_together(table, balls):
    """Return the names of the greatest crowd, its minute and its point."""
    check_crowd(table, balls)
    crowds = []
    for many in range(1, len(balls) + 1):
        for group in combinations(balls, many):
            names = tuple(sorted([ball[0] for ball in group]))
            for minute, _ in together(table, group):
                crowds.append((-many, minute, names, place_at(table, group[0], minute)))
    _, minute, names, point = min(crowds)
    return (names, minute, point)


def crowd_at(table, balls, minute):
    """Return the points at which balls are at the minute, each with the names of the balls there."""
    check_crowd(table, balls)
    there = {}
    for ball in balls:
        point = place_at(table, ball, minute)
        if point is not None:
            there.setdefault(point, []).append(ball[0])
    return sorted([(point, tuple(sorted(names))) for point, names in there.items()])


def check_crowd(table, balls):
    """Raise InvalidBall or InvalidQuestion if these are not one to six balls of the table."""
    check_balls(table, balls)
    if not 1 <= len(balls) <= MOST_IN_A_CROWD:
        raise InvalidQuestion("one to six balls are asked about")
