"""Starts: how many points with a direction fall into which pocket."""

from math import gcd, lcm

from cushioned.congruences import chinese, common


def slanting_starts(table):
    """Return each pocket with the number of slanting starts that fall into it, and how many never fall."""
    length = lcm(2 * table.width, 2 * table.height)
    rounds = grouped(slanting_marks(table))
    shares = []
    for shift, marks in rounds.items():
        shares.extend(shares_of(length, marks, slanting_doubles(table, shift)))
    return summed(table, shares)


def straight_starts(table):
    """Return each pocket with the number of straight starts that fall into it, and how many never fall."""
    width, height = table.width, table.height
    rows = grouped([(y, number, (x, y)) for x, y in table.pockets for number in numbers_at(x, width)])
    columns = grouped([(x, number, (x, y)) for x, y in table.pockets for number in numbers_at(y, height)])
    shares = []
    for size, rounds in ((width, rows), (height, columns)):
        for marks in rounds.values():
            shares.extend(shares_of(2 * size, marks, [(0, size)]))
    return summed(table, shares)


def numbers_at(place, size):
    """Return the numbers modulo twice the size that tell the place, one for each direction."""
    return [place] if place in (0, size) else [place, 2 * size - place]


def slanting_marks(table):
    """Return for each pair of each pocket its round, its position on the round, and the pocket."""
    width, height = 2 * table.width, 2 * table.height
    marks = []
    for pocket in table.pockets:
        for x in numbers_at(pocket[0], table.width):
            for y in numbers_at(pocket[1], table.height):
                shift = (y - x) % gcd(width, height)
                # At position t of its round the pair is t and t + shift.
                position, _ = chinese((x, width), ((y - shift) % height, height))
                marks.append((shift, position, pocket))
    return marks


def slanting_doubles(table, shift):
    """Return classes of positions on a round; for each of them a position has one start more."""
    x, y = (0, table.width), (-shift % table.height, table.height)
    # What is in both classes stands for four starts, so the common class counts it once more.
    return [x, y, *common([x], [y])]


def grouped(rows):
    """Return a dict of the marks, positions with their pockets, of each round."""
    rounds = {}
    for key, position, pocket in rows:
        rounds.setdefault(key, []).append((position, pocket))
    return rounds


def shares_of(length, marks, doubles):
    """Return the pockets of a round, each with the number of starts between it and the one before it."""
    ordered = sorted(marks)
    before = ordered[-1][0] - length
    shares = []
    for position, pocket in ordered:
        shares.append((pocket, starts_between(before, position, doubles)))
        before = position
    return shares


def starts_between(before, last, doubles):
    """Return how many starts stand at the positions behind one up to a last one."""
    more = [(last - remainder) // modulus - (before - remainder) // modulus for remainder, modulus in doubles]
    return last - before + sum(more)


def summed(table, shares):
    """Return the pockets in their order with the sums of their shares, and the number of other starts."""
    numbers = [
        (pocket, sum([number for other, number in shares if other == pocket]))
        for pocket in table.pockets
    ]
    starts = 4 * (table.width + 1) * (table.height + 1)
    return (numbers, starts - sum([number for _, number in numbers]))
