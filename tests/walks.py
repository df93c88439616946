"""Balls walked step by step, as point 13 tells it, for the tests of all that is reckoned."""

import math

from cushioned.tables import Table

GREAT = 10 ** 30
DIRECTIONS = [(-1, -1), (-1, 0), (-1, 1), (0, -1), (0, 1), (1, -1), (1, 0), (1, 1)]
ROWS = [(0, 0, 1, 1, 3), (0, 0, -1, 0, 0), (1, 0, 0, -1, 7), (1, 1, 1, -1, 2), (0, 1, -1, -1, 5)]
SIZES = [(1, 1), (1, 2), (2, 1), (1, 4), (3, 1), (2, 2), (3, 2), (2, 4), (3, 3), (4, 3), (6, 4)]


def points(table):
    return [(x, y) for x in range(table.width + 1) for y in range(table.height + 1)]


def balls_on(table, minute, name="a"):
    """Return the balls at all points in all directions."""
    return [(name, *point, *way, minute) for point in points(table) for way in DIRECTIONS]


def small_tables(sizes=None):
    return [Table(width, height) for width, height in (sizes or SIZES)]


def small_balls(sizes=None, minutes=(0, 5)):
    """Return pairs of a small table and a ball on it."""
    return [
        (table, ball)
        for table in small_tables(sizes) for minute in minutes for ball in balls_on(table, minute)
    ]


def some_balls(table):
    """Return a few balls that start at several minutes."""
    return [("b" + str(k), *row) for k, row in enumerate(ROWS)] + balls_on(table, 1)[::5]


def groups(table, many):
    """Return lists of balls, among them one ball given several times and balls of one name."""
    balls = some_balls(table)
    first = [[ball] * many for ball in balls[:3]]
    return first + [
        [balls[(k + at * (1 + k % 3)) % len(balls)] for at in range(many)] for k in range(3 * len(balls))
    ]


def tables_with_pockets():
    """Return small tables with 0 to 3 pockets, at corners, at edges and inside."""
    tables = []
    for w, h in SIZES:
        for pockets in (
            [], [(0, 0)], [(w, h), (0, h // 2)], [(w // 2, h // 2)], [(w, 0), (0, h), (w // 2, h)],
            [(w - 1, h - 1), (w, h - 1), (w - 1, h)], [(w, 0), (w - 1, 1)],
        ):
            tables.append(Table(w, h, list(dict.fromkeys(pockets))))
    return tables


def enlarged(table, ball, factor):
    """Return the table and the ball, both so many times as great."""
    name, x, y, dx, dy, minute = ball
    pockets = [(factor * left, factor * low) for left, low in table.pockets]
    great = Table(table.width * factor, table.height * factor, pockets)
    return (great, (name, x * factor, y * factor, dx, dy, minute * factor))


def next_step(place, step, side):
    """Return the step that is taken: the other one if this one would leave the table."""
    return step if 0 <= place + step <= side else -step


def walk(table, ball, many):
    """Return minute, place and next steps for some minutes from the own minute on."""
    _, x, y, dx, dy, start = ball
    rows = []
    for minute in range(start, start + many):
        dx, dy = next_step(x, dx, table.width), next_step(y, dy, table.height)
        rows.append((minute, (x, y), (dx, dy)))
        x, y = x + dx, y + dy
    return rows


def walked_places(table, ball, many):
    """Return a dict of the places at the minutes."""
    return {minute: place for minute, place, _ in walk(table, ball, many)}


def walked_fall(table, ball):
    """Return the minute at which the ball falls in a walk and the pocket, or None."""
    for minute, place, _ in walk(table, ball, turns(table)):
        if place in table.pockets:
            return (minute, place)
    return None


def turns(table):
    """Return a number of minutes behind which every ball on the table is where it was."""
    return 4 * table.width * table.height


def listed(classes, low, high):
    """Return the minutes of some classes (remainder or first, modulus) from low to high, each time they occur."""
    return sorted([
        minute for first, modulus in classes
        for minute in range(low + (first - low) % modulus, high + 1, modulus)
    ])


def pairs_of_classes():
    """Return rows of two classes and the class of the numbers in both, found one by one, or None."""
    classes = [(r, m) for m in range(1, 13) for r in range(m)]
    rows = []
    for one in classes:
        for other in classes:
            whole = math.lcm(one[1], other[1])
            numbers = [k for k in range(one[0], whole, one[1]) if k % other[1] == other[0]]
            rows.append((one, other, (numbers[0], whole) if numbers else None))
    return rows


def great_pairs_of_classes(number):
    """Return rows of two classes of a number, modulo numbers of 30 and more figures, and their class."""
    rows = []
    for m, n in (
        (GREAT, 10 ** 29 - 4), (10 ** 29 + 1, 10 ** 29 + 3), (GREAT, GREAT), (GREAT, 6),
        (2 * GREAT, 2 * GREAT - 2), (GREAT ** 2 + 1, GREAT ** 2),
    ):
        whole = math.lcm(m, n)
        rows.append(((number % m, m), (number % n, n), (number % whole, whole)))
    return rows


def named(balls):
    """Return the balls with names that run against their order."""
    return [(name, *ball[1:]) for name, ball in zip("zyxwvutsrqpo", balls)]


def games_on(table, many):
    """Return lists of balls of different names, some of which start at pockets, late or at one point."""
    balls = some_balls(table)
    lists = [
        named([balls[(k + at * (2 + k % 3)) % len(balls)] for at in range(many)]) for k in range(4)]
    starts = [("b", *pocket, 1, 0, 4) for pocket in table.pockets] + [("b", 0, 0, 0, 1, 9)]
    return lists + [named((starts + balls[3:])[:many])]


def walked_stays(table, balls, last):
    """Return for each name the dict of the places, up to a last minute, while the ball is on the table."""
    stays = {}
    for ball in balls:
        fall = walked_fall(table, ball)
        end = last if fall is None else min(fall[0], last)
        stays[ball[0]] = walked_places(table, ball, end - ball[5] + 1)
    return stays


def shared_minutes(ones, others):
    """Return the minutes at which two dicts have the same place."""
    return sorted([minute for minute in ones if minute in others and ones[minute] == others[minute]])


def walked_meetings(stays, minute):
    """Return the first meetings from a minute on of all pairs, by minutes and then by the order of the balls."""
    rows = []
    for at, (one, ones) in enumerate(stays.items()):
        for behind, (other, others) in enumerate(stays.items()):
            later = [k for k in shared_minutes(ones, others) if k >= minute]
            if at < behind and later:
                rows.append((later[0], at, behind, one, other))
    return [(first, one, other) for first, _, _, one, other in sorted(rows)]
