"""Runs: where a ball is and how it goes on, at any minute."""

from math import gcd, lcm

from cushioned.balls import check_ball
from cushioned.congruences import chinese, common, point_classes, solved
from cushioned.errors import InvalidQuestion
from cushioned.times import Times

# Which part of a place is the same along an edge, 0 for x and 1 for y, and whether it is the size.
EDGES = {"left": (0, False), "right": (0, True), "bottom": (1, False), "top": (1, True)}


def unfolded(table, ball):
    """Return the unfolded place at minute 0, the step and the size, for x and for y."""
    _, x, y, dx, dy, minute = ball
    return ((x - dx * minute, dx, table.width), (y - dy * minute, dy, table.height))


def phase_at(part, minute):
    """Return the phase of a part that moves at a minute."""
    at, step, size = part
    return (step * at + minute) % (2 * size)


def folded(part, minute):
    """Return the place of a part at a minute."""
    at, step, size = part
    if step == 0:
        return at
    phase = phase_at(part, minute)
    return min(phase, 2 * size - phase)


def next_step(part, minute):
    """Return the next step of a part at a minute."""
    _, step, size = part
    if step == 0:
        return 0
    return 1 if phase_at(part, minute) < size else -1


def place_at(table, ball, minute):
    """Return the place of the ball at a minute, or None ahead of its own one."""
    check_ball(table, ball)
    if minute < ball[5]:
        return None
    return tuple([folded(part, minute) for part in unfolded(table, ball)])


def heading_at(table, ball, minute):
    """Return the next steps of the ball at a minute, or None ahead of its own one."""
    check_ball(table, ball)
    if minute < ball[5]:
        return None
    return tuple([next_step(part, minute) for part in unfolded(table, ball)])


def agreed(one, other):
    """Return the class of the numbers in two classes, or None."""
    return chinese(one, other)


def period(table, ball):
    """Return the least number of minutes behind which place and heading are the same again."""
    check_ball(table, ball)
    turns = [1 if step == 0 else 2 * size for _, step, size in unfolded(table, ball)]
    return lcm(turns[0], turns[1])


def corner_minutes(table, ball):
    """Return the first minute at a corner and the minutes between two of them, or None."""
    check_ball(table, ball)
    # A part is at one of its ends exactly if its unfolded place is a multiple of its size.
    x, y = [solved(step, -at, size) for at, step, size in unfolded(table, ball)]
    corners = counted_from(ball[5], common(x, y))
    return corners[0] if corners else None


def goes_back(table, ball):
    """Tell whether the ball ever leaves a place to the one from which it came there."""
    return corner_minutes(table, ball) is not None or 0 in ball[3:5]


def point_count(table, ball):
    """Return the number of different points to which the ball comes."""
    check_ball(table, ball)
    if ball[3] == 0:
        return table.height + 1
    if ball[4] == 0:
        return table.width + 1
    divisor = gcd(table.width, table.height)
    width, height = table.width // divisor, table.height // divisor
    if goes_back(table, ball):
        return divisor * width * height + 1 - (width - 1) * (height - 1) // 2
    return 2 * divisor * width * height - 2 * width * height + width + height


def passing(table, ball, point):
    """Return the classes of the minutes at which the ball is at the point, ahead of its own one too."""
    check_ball(table, ball)
    table.check_point(point)
    (x, dx, width), (y, dy, height) = unfolded(table, ball)
    return common(point_classes(width, x, dx, point[0]), point_classes(height, y, dy, point[1]))


def counted_from(minute, classes):
    """Return the classes in order, each with its first minute from a minute on."""
    return sorted([
        (minute + (remainder - minute) % modulus, modulus) for remainder, modulus in classes
    ])


def point_minutes(table, ball, point):
    """Return the classes of the minutes at which the ball is at the point."""
    classes = passing(table, ball, point)
    return counted_from(ball[5], classes)


def is_passed(table, ball, point):
    """Tell whether the ball ever comes to the point."""
    return len(passing(table, ball, point)) > 0


def first_return(table, ball):
    """Return the first minute behind its own one at which the ball is at its first point again."""
    check_ball(table, ball)
    return counted_from(ball[5] + 1, passing(table, ball, ball[1:3]))[0][0]


def hits(table, ball, edge, until):
    """Return at how many minutes, up to a last one, the ball is at the edge."""
    check_ball(table, ball)
    if edge not in EDGES:
        raise InvalidQuestion("there is no such edge")
    which, far = EDGES[edge]
    at, step, size = unfolded(table, ball)[which]
    classes = point_classes(size, at, step, size if far else 0)
    return Times(ball[5], None, classes).number_to(until)
