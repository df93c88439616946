"""Papers of never: remainders that show that two balls never meet."""

from math import gcd

from cushioned.balls import is_integer
from cushioned.congruences import common
from cushioned.meetings import part_meetings


def never(table, one, other):
    """Return the rows of a paper that the two balls never meet, or None if they meet."""
    xs, ys = part_meetings(table, one, other)
    if common(xs, ys):
        return None
    if not xs or not ys:
        return papers_of_one_part(xs, ys)[0]
    return [("pair", r, m, s, n, gcd(m, n)) for r, m in xs for s, n in ys]


def check_never(table, one, other, rows):
    """Tell whether the rows are a right paper that the two balls never meet."""
    xs, ys = part_meetings(table, one, other)
    paper = [row_of(row) for row in rows]
    if not xs or not ys:
        return paper in papers_of_one_part(xs, ys)
    if not all([is_right(row, xs, ys) for row in paper]):
        return False
    pairs = [row[1:5] for row in paper]
    return all([(*left, *right) in pairs for left in xs for right in ys])


def papers_of_one_part(xs, ys):
    """Return the papers of one row, for each part for which there is no class."""
    return [[(word,)] for word, classes in (("x", xs), ("y", ys)) if not classes]


def row_of(row):
    """Return the row as a tuple; what is no row at all as one without parts."""
    return tuple(row) if isinstance(row, (list, tuple)) else ()


def is_right(row, xs, ys):
    """Tell whether the row sets one of the classes for x against one of those for y."""
    # A row may have any words and integers, so the kinds come before what reckons with them.
    if len(row) != 6 or row[0] != "pair" or not all([is_integer(part) for part in row[1:]]):
        return False
    _, r, m, s, n, divisor = row
    if (r, m) not in xs or (s, n) not in ys or divisor < 1:
        return False
    return m % divisor == 0 and n % divisor == 0 and (r - s) % divisor != 0
