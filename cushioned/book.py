"""Books: games under names, with changes that can be taken back and made again."""

from cushioned.errors import NothingToRedo, NothingToUndo, UnknownName
from cushioned.games import Game


class Entry:
    """A game as one change left it, and its report once somebody asked for it."""

    def __init__(self, content):
        self.content = content
        self.told = None


class Book:
    """Games under names; `decided` and `kept` count the reports."""

    def __init__(self):
        self.decided = 0
        self.kept = 0
        self._entries = {}
        # Each change is a name with its entries before and behind the change, None for no game.
        self._made = []
        self._taken_back = []

    def set_game(self, name, table, balls):
        """Set the game of the name, or replace it."""
        self.change(name, Entry(Game(table, balls)))

    def drop_game(self, name):
        """Drop the game of the name."""
        self.entry(name)
        self.change(name, None)

    def put_ball(self, name, ball):
        """Put a further ball into a game, behind the others."""
        self.change(name, Entry(self.game(name).with_ball(ball)))

    def take_ball(self, name, ball_name):
        """Take a ball out of a game."""
        self.change(name, Entry(self.game(name).without_ball(ball_name)))

    def undo(self):
        """Take back the last change that is not taken back."""
        if not self._made:
            raise NothingToUndo("there is no change to take back")
        change = self._made.pop()
        self._taken_back.append(change)
        name, before, _ = change
        self.enter(name, before)

    def redo(self):
        """Make the change again that was taken back last."""
        if not self._taken_back:
            raise NothingToRedo("there is no change to make again")
        change = self._taken_back.pop()
        self._made.append(change)
        name, _, behind = change
        self.enter(name, behind)

    def change_all(self, changes):
        """Make several changes, tuples of a method's name and its arguments; all of them or none."""
        # The changes are tried on a copy, so that an error leaves this book as it was.
        trial = Book()
        trial._entries = self._entries.copy()
        trial._made = self._made.copy()
        trial._taken_back = self._taken_back.copy()
        actions = trial.actions()
        for word, *arguments in changes:
            action = actions[word]
            action(*arguments)
        self._entries = trial._entries
        self._made = trial._made
        self._taken_back = trial._taken_back

    def actions(self):
        """Return the methods that change games, by their names."""
        return {
            "set_game": self.set_game,
            "drop_game": self.drop_game,
            "put_ball": self.put_ball,
            "take_ball": self.take_ball,
        }

    def game_names(self):
        """Return the names of the games in ascending order."""
        return sorted(self._entries)

    def game(self, name):
        """Return the game of the name."""
        return self.entry(name).content

    def report(self, name):
        """Return the falls and the first meetings of a game, each as a tuple of tuples."""
        entry = self.entry(name)
        if entry.told is not None:
            self.kept += 1
            return entry.told
        self.decided += 1
        entry.told = (tuple(entry.content.fall_order()), tuple(entry.content.first_meetings()))
        return entry.told

    def entry(self, name):
        """Return the entry of the name."""
        if name not in self._entries:
            raise UnknownName(name)
        return self._entries[name]

    def change(self, name, entry):
        """Make one change, behind which the name has this entry."""
        self._made.append((name, self._entries.get(name), entry))
        self._taken_back = []
        self.enter(name, entry)

    def enter(self, name, entry):
        """Let the name have this entry; None stands for no game."""
        if entry is None:
            del self._entries[name]
        else:
            self._entries[name] = entry
