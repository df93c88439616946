"""The errors that the program raises."""


class CushionedError(ValueError):
    """The base class of all errors of the program."""


class InvalidTable(CushionedError):
    """A table breaks a rule on its size or its pockets."""


class InvalidBall(CushionedError):
    """A tuple is no ball on its table, or balls cannot stand in one list."""


class InvalidQuestion(CushionedError):
    """A question is about something that the table does not have, or is out of bounds."""


class NothingToUndo(CushionedError):
    """There is no change to take back."""


class NothingToRedo(CushionedError):
    """There is no change to make again."""


class UnknownName(CushionedError):
    """Nothing has this name; `name` tells it."""

    def __init__(self, name):
        super().__init__(f"nothing is called {name}")
        self.name = name


class InvalidNotation(CushionedError):
    """A text has another form than the notation; `line` is the number of the first wrong line."""

    def __init__(self, line):
        super().__init__(f"line {line} cannot stand here")
        self.line = line


class InvalidPaper(CushionedError):
    """A text has another form than a paper; `line` is the number of the first wrong line."""

    def __init__(self, line):
        super().__init__(f"line {line} cannot stand in a paper")
        self.line = line
