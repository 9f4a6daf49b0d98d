"""Whole numbers, sides, orders and mazes, told apart from any other thing."""

SIDES = ("l", "r")
MOST_RINGS = 20


def is_whole(thing):
    """Tell whether a thing is a whole number."""
    # Python counts True and False as ints.
    return isinstance(thing, int) and not isinstance(thing, bool)


def is_below(thing, bound):
    """Tell whether a thing is a whole number from 0 on and below a bound."""
    return is_whole(thing) and 0 <= thing < bound


def is_side(thing):
    """Tell whether a thing is a side."""
    return thing in SIDES


def is_order(thing):
    """Tell whether a thing is a tuple of the numbers 1 to n, each once, n at most twenty."""
    if not isinstance(thing, tuple) or len(thing) > MOST_RINGS:
        return False
    # Asked ahead of the sorting: True equals 1, and a text can't be sorted among numbers.
    if not all([is_whole(ring) for ring in thing]):
        return False
    return sorted(thing) == list(range(1, len(thing) + 1))


def is_maze(thing):
    """Tell whether a thing is a tuple of a side and an order, drawable or not."""
    if not isinstance(thing, tuple) or len(thing) != 2:
        return False
    return is_side(thing[0]) and is_order(thing[1])
