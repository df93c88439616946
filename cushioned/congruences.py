"""Classes: the integers that leave one remainder when divided by a modulus."""

from math import gcd

# The class of all integers.
ALL = (0, 1)


def chinese(one, other):
    """Return the class of the numbers that two classes have in common, or None."""
    remainder, modulus = one
    distance = other[0] - remainder
    divisor = gcd(modulus, other[1])
    if distance % divisor != 0:
        return None
    factor = other[1] // divisor
    steps = distance // divisor * inverse(modulus // divisor, factor) % factor
    whole = modulus * factor
    return ((remainder + modulus * steps) % whole, whole)


def inverse(number, modulus):
    """Return what makes 1 of a number, modulo a modulus with which it has no divisor in common."""
    left, right = number, modulus
    # The number times `found` is always `left`, and times `further` it is `right`, modulo the modulus.
    found, further = 1, 0
    while right != 0:
        many = left // right
        left, right = right, left - many * right
        found, further = further, found - many * further
    return found


def solved(factor, right, modulus):
    """Return the classes of all t for which factor * t and right leave the same remainder."""
    if factor == 0:
        return [ALL] if right % modulus == 0 else []
    if factor in (1, -1):
        return [(factor * right % modulus, modulus)]
    sign = factor // 2
    if modulus % 2 == 1:
        # Half of the modulus, rounded up, makes 1 of 2: twice it is the modulus and one.
        return [(sign * right * (modulus // 2 + 1) % modulus, modulus)]
    if right % 2 == 1:
        return []
    return solved(sign, right // 2, modulus // 2)


def point_classes(size, at, step, goal):
    """Return the classes of the minutes at which a part, at `at` at minute 0, is at a place."""
    return meeting_classes(size, at, step, goal, 0)


def meeting_classes(size, at, step, other, move):
    """Return the classes of the minutes at which two parts are at the same place."""
    alike = solved(step - move, other - at, 2 * size)
    opposite = solved(step + move, -other - at, 2 * size)
    return once(alike + opposite)


def once(classes):
    """Return each class once, sorted; a class of all minutes alone."""
    if ALL in classes:
        return [ALL]
    return by_modulus([part for at, part in enumerate(classes) if part not in classes[:at]])


def by_modulus(classes):
    """Return the classes sorted by modulus and then by remainder."""
    return sorted(classes, key=lambda part: (part[1], part[0]))


def common(ones, others):
    """Return the classes of the numbers that each of some classes has in common with each of others."""
    pairs = [chinese(one, other) for one in ones for other in others]
    return [pair for pair in pairs if pair is not None]
