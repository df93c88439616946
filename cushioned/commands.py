"""Commands: which lines of words a session does."""

from cushioned.balls import is_name
from cushioned.notation import STEP_WORDS, is_number

# What the words behind the first one are.
FORMS = {
    "game": ("name",),
    "put": ("name", "name", "number", "number", "step", "step", "number"),
    "take": ("name", "name"),
    "drop": ("name",),
    "where": ("name", "number"),
    "meet": ("name", "name", "name", "number"),
    "first": ("name",),
    "falls": ("name",),
    "print": ("name",),
    "undo": (),
    "redo": (),
    "games": (),
}


def split_words(line):
    """Return the words of the line."""
    return [word for word in line.split(" ") if word != ""]


def is_command(words):
    """Tell whether the words are a command."""
    if words[0] not in FORMS:
        return False
    form = FORMS[words[0]]
    if len(words) != len(form) + 1:
        return False
    return all([fits(word, kind) for word, kind in zip(words[1:], form)])


def fits(word, kind):
    """Tell whether the word is one of the kind."""
    if kind == "name":
        return is_name(word)
    if kind == "step":
        return word in STEP_WORDS
    return is_number(word)
