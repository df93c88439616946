"""The written forms of sets of minutes and of papers of never."""

from cushioned.errors import InvalidNotation, InvalidPaper
from cushioned.nevers import check_never
from cushioned.notation import is_number
from cushioned.times import Times

MOST_DIGITS = 70
NO_END = "-"


def times_text(times):
    """Return the written form of a set of minutes."""
    end = NO_END if times.end is None else times.end
    lines = [f"times {times.start} {end}"]
    for remainder, modulus in times.classes:
        lines.append(f"class {remainder} {modulus}")
    return "\n".join(lines)


def parse_times(text):
    """Return the set of minutes that the text writes."""
    rows = words_of(text)
    for number, words in enumerate(rows, 1):
        if not (is_bounds(words) if number == 1 else is_class(words)):
            raise InvalidNotation(number)
    _, start, end = rows[0]
    classes = [(int(remainder), int(modulus)) for _, remainder, modulus in rows[1:]]
    return Times(int(start), None if end == NO_END else int(end), classes)


def never_text(rows):
    """Return the written form of the rows of a paper of never."""
    return "\n".join(["never"] + [" ".join([str(part) for part in row]) for row in rows])


def parse_never(text):
    """Return the rows of the paper of never that the text writes."""
    rows = words_of(text)
    for number, words in enumerate(rows, 1):
        if not (words == ["never"] if number == 1 else is_row(words)):
            raise InvalidPaper(number)
    return [(words[0], *[int(word) for word in words[1:]]) for words in rows[1:]]


def check_text(table, one, other, text):
    """Tell whether the text writes a right paper that the two balls never meet."""
    rows = parse_never(text)
    return check_never(table, one, other, rows)


def words_of(text):
    """Return the list of the words of each line."""
    return [line.split(" ") for line in text.split("\n")]


def is_bounds(words):
    """Tell whether the words are a line with a start and an end."""
    if len(words) != 3 or words[0] != "times" or not are_numbers(words[1:2]):
        return False
    return words[2] == NO_END or are_numbers(words[2:])


def is_class(words):
    """Tell whether the words are a line with a class."""
    return len(words) == 3 and words[0] == "class" and are_numbers(words[1:])


def is_row(words):
    """Tell whether the words are a line with a row of a paper."""
    if words in (["x"], ["y"]):
        return True
    return len(words) == 6 and words[0] == "pair" and are_numbers(words[1:])


def are_numbers(words):
    """Tell whether all of the words are integers of these forms."""
    return all([is_number(word, MOST_DIGITS) for word in words])
