"""Enlarged tables: larger tables and balls on them that run as smaller ones do."""

from math import gcd

from cushioned.balls import check_ball, check_balls
from cushioned.errors import InvalidQuestion
from cushioned.tables import Table

GREATEST_FACTOR = 10 ** 30


def enlarged(table, factor):
    """Return the table that is the factor times as great."""
    if not 1 <= factor <= GREATEST_FACTOR:
        raise InvalidQuestion("a factor is an integer from 1 to 10 ** 30")
    pockets = [(factor * x, factor * y) for x, y in table.pockets]
    return Table(factor * table.width, factor * table.height, pockets)


def enlarged_ball(table, ball, factor):
    """Return the ball on the table that is the factor times as great."""
    check_ball(table, ball)
    great_table = enlarged(table, factor)
    name, x, y, dx, dy, minute = ball
    great_ball = (name, factor * x, factor * y, dx, dy, factor * minute)
    check_ball(great_table, great_ball)
    return great_ball


def factor_of(table, other):
    """Return the factor by which the other table is the first one enlarged, or None."""
    factor = other.width // table.width
    pockets = sorted([(factor * x, factor * y) for x, y in table.pockets])
    if (factor * table.width, factor * table.height) != (other.width, other.height):
        return None
    return factor if pockets == sorted(other.pockets) else None


def greatest_factor(table, balls):
    """Return the greatest factor by which the table with the balls is one enlarged."""
    check_balls(table, balls)
    factor = gcd(table.width, table.height)
    for x, y in table.pockets:
        factor = gcd(factor, gcd(x, y))
    for _, x, y, _, _, minute in balls:
        factor = gcd(factor, gcd(gcd(x, y), minute))
    return factor


def reduced(table, balls):
    """Return the table and the list of balls that are enlarged by the greatest factor to these."""
    factor = greatest_factor(table, balls)
    pockets = [(x // factor, y // factor) for x, y in table.pockets]
    small_balls = [
        (name, x // factor, y // factor, dx, dy, minute // factor)
        for name, x, y, dx, dy, minute in balls
    ]
    return (Table(table.width // factor, table.height // factor, pockets), small_balls)
