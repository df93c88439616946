"""Games: a table with balls that run on it, meet on it and fall from it."""

from itertools import combinations

from cushioned.balls import check_balls
from cushioned.errors import InvalidQuestion, UnknownName
from cushioned.falls import first_fall
from cushioned.meetings import all_meet
from cushioned.runs import place_at
from cushioned.times import Times


class Game:
    """A table and balls of different names on it; it does not change."""

    def __init__(self, table, balls=()):
        check_balls(table, balls)
        self.table = table
        self.balls = tuple([tuple(ball) for ball in balls])
        # Nearly every question asks for the falls, and each of them is looked for at every pocket.
        self._ends = {ball[0]: first_fall(table, ball) for ball in self.balls}

    @property
    def names(self):
        """Return the names of the balls, in order."""
        return tuple([ball[0] for ball in self.balls])

    def ball(self, name):
        """Return the ball of the name."""
        found = [ball for ball in self.balls if ball[0] == name]
        if not found:
            raise UnknownName(name)
        return found[0]

    def life(self, name):
        """Return the first minute of the ball and the minute of its fall, or None for that."""
        return (self.ball(name)[5], self._ends[name])

    def stands(self, name, minute):
        """Tell whether the ball is on the table at the minute."""
        first, last = self.life(name)
        return first <= minute and (last is None or minute <= last)

    def places(self, minute):
        """Return names and places of the balls that are on the table at the minute, in order."""
        there = [ball for ball in self.balls if self.stands(ball[0], minute)]
        return [(ball[0], place_at(self.table, ball, minute)) for ball in there]

    def meetings(self, one, other):
        """Return the Times of the minutes at which two balls meet."""
        found = all_meet(self.table, [self.ball(one), self.ball(other)])
        if one == other:
            raise InvalidQuestion("a ball does not meet itself")
        ends = [end for end in (self._ends[one], self._ends[other]) if end is not None]
        return Times(found.start, min(ends, default=None), found.classes)

    def first_meetings(self):
        """Return minute and names of the first meetings of all pairs that ever meet, in order."""
        return self.meetings_from(0)

    def next_meeting(self, minute):
        """Return minute and names of the first meeting of any two balls from a minute on, or None."""
        found = self.meetings_from(minute)
        return found[0] if found else None

    def meetings_from(self, minute):
        """Return minute and names of the first meeting of each pair from a minute on, in order."""
        names = list(self.names)
        rows = [
            (self.meetings(one, other).next_from(minute), one, other)
            for one, other in combinations(names, 2)
        ]
        return sorted([row for row in rows if row[0] is not None], key=lambda row: row[0])

    def company(self, name):
        """Return the names of the balls that the ball ever meets, in order."""
        self.ball(name)
        others = [other for other in self.names if other != name]
        return [other for other in others if not self.meetings(name, other).is_empty()]

    def fall_order(self):
        """Return minute and name of the balls that fall, by minutes and then in their order."""
        rows = [(end, name) for name, end in self._ends.items() if end is not None]
        return sorted(rows, key=lambda row: row[0])

    def with_ball(self, ball):
        """Return the game with a further ball behind the others."""
        return Game(self.table, [*self.balls, ball])

    def without_ball(self, name):
        """Return the game without a ball."""
        self.ball(name)
        return Game(self.table, [ball for ball in self.balls if ball[0] != name])
