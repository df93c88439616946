"""Sets of minutes: classes between a start and an end."""

from cushioned.balls import is_integer
from cushioned.congruences import by_modulus, chinese, common
from cushioned.errors import InvalidQuestion

MOST_CLASSES = 64


class Times:
    """The minutes of some classes, no earlier than a start and no later than an end."""

    def __init__(self, start, end, classes):
        check_bounds(start, end)
        check_classes(classes)
        self.start = start
        self.end = end
        self.classes = by_modulus([tuple(part) for part in classes])

    def holds(self, minute):
        """Tell whether the minute is in the set."""
        if minute < self.start or self.end is not None and minute > self.end:
            return False
        return any([minute % modulus == remainder for remainder, modulus in self.classes])

    def next_from(self, minute):
        """Return the first minute of the set from a minute on, or None."""
        low = max(self.start, minute)
        firsts = [low + (remainder - low) % modulus for remainder, modulus in self.classes]
        first = min(firsts, default=None)
        if first is None or self.end is not None and first > self.end:
            return None
        return first

    def number_to(self, minute):
        """Return how many minutes of the set are not behind a minute."""
        last = minute if self.end is None else min(self.end, minute)
        if last < self.start:
            return 0
        return sum([
            (last - remainder) // modulus - (self.start - 1 - remainder) // modulus
            for remainder, modulus in self.classes
        ])

    def is_empty(self):
        """Tell whether the set has no minute."""
        return self.next_from(self.start) is None


def both(one, other):
    """Return the Times of the minutes that are in two of them."""
    ends = [times.end for times in (one, other) if times.end is not None]
    classes = common(one.classes, other.classes)
    return Times(max(one.start, other.start), min(ends, default=None), classes)


def check_bounds(start, end):
    """Raise InvalidQuestion if a set of minutes cannot start and end there."""
    if start < 0 or end is not None and end < 0:
        raise InvalidQuestion("a start or an end is below 0")


def check_classes(classes):
    """Raise InvalidQuestion if these cannot be the classes of a set of minutes."""
    if len(classes) > MOST_CLASSES:
        raise InvalidQuestion("there are more than 64 classes")
    if not all([is_class(part) for part in classes]):
        raise InvalidQuestion("a class is a remainder and a greater modulus")
    for at, one in enumerate(classes):
        if any([chinese(one, other) is not None for other in classes[:at]]):
            raise InvalidQuestion("two classes have a number in common")


def is_class(part):
    """Tell whether a value is a class, as a tuple or as a list."""
    if not isinstance(part, (list, tuple)) or len(part) != 2:
        return False
    remainder, modulus = part
    # Anything may stand in the list, so the kinds come before what compares them.
    return is_integer(remainder) and is_integer(modulus) and 0 <= remainder < modulus
