"""Tables: a size and pockets."""

from cushioned.errors import InvalidQuestion, InvalidTable

GREATEST_SIDE = 10 ** 30
MOST_POCKETS = 12


class Table:
    """A table of points (x, y) with pockets in an order; it does not change."""

    def __init__(self, width, height, pockets=()):
        self.width = width
        self.height = height
        self.pockets = tuple([tuple(pocket) for pocket in pockets])
        check_size(width, height)
        check_pockets(self)

    def is_point(self, point):
        """Tell whether the two integers are a point of the table."""
        if len(point) != 2:
            return False
        x, y = point
        return 0 <= x <= self.width and 0 <= y <= self.height

    def check_point(self, point):
        """Raise InvalidQuestion if the two integers are no point of the table."""
        if not self.is_point(point):
            raise InvalidQuestion("the table does not have this point")

    def is_edge(self, point):
        """Tell whether the point lies on an edge."""
        self.check_point(point)
        x, y = point
        return x in (0, self.width) or y in (0, self.height)

    def is_corner(self, point):
        """Tell whether the point is a corner."""
        self.check_point(point)
        x, y = point
        return x in (0, self.width) and y in (0, self.height)

    def is_pocket(self, point):
        """Tell whether the point has a pocket."""
        self.check_point(point)
        return tuple(point) in self.pockets

    def corners(self):
        """Return the four corners, ascending."""
        return [(0, 0), (0, self.height), (self.width, 0), (self.width, self.height)]

    def with_size(self, width, height):
        """Return the table of this size with the same pockets."""
        return Table(width, height, self.pockets)

    def with_pocket(self, point):
        """Return the table with a further pocket behind the others."""
        return Table(self.width, self.height, [*self.pockets, point])

    def without_pocket(self, point):
        """Return the table without the pocket at the point."""
        if not self.is_pocket(point):
            raise InvalidQuestion("there is no pocket at this point")
        left = [pocket for pocket in self.pockets if pocket != tuple(point)]
        return Table(self.width, self.height, left)

    def turned(self):
        """Return the table on which x and y are exchanged."""
        return Table(self.height, self.width, [(y, x) for x, y in self.pockets])


def check_size(width, height):
    """Raise InvalidTable if these are no sides of a table."""
    for side in (width, height):
        if not 1 <= side <= GREATEST_SIDE:
            raise InvalidTable("a side is an integer from 1 to 10 ** 30")


def check_pockets(table):
    """Raise InvalidTable if the table cannot have the pockets that it holds."""
    if len(table.pockets) > MOST_POCKETS:
        raise InvalidTable("a table has at most 12 pockets")
    for pocket in table.pockets:
        if not table.is_point(pocket):
            raise InvalidTable("a pocket is a point of its table")
    # Only now is each pocket known to be two integers, which a set can hold.
    if len(set(table.pockets)) < len(table.pockets):
        raise InvalidTable("pockets are different points")
