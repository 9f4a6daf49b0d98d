"""Mazes written by the letters of their rings, and read again."""

from ringmaze.errors import NoCode, NoMaze
from ringmaze.mazes import bows_of, other_side, vet
from ringmaze.states import LETTERS, begun, leading_on, step
from ringmaze.words import MOST_RINGS, is_side

LEFT_INWARDS = "ab"
RIGHT_INWARDS = "ac"


def letter_of(left_inwards, right_inwards):
    """Tell the letter of a ring by whether its two bows lead inwards."""
    if left_inwards:
        return "a" if right_inwards else "b"
    return "c" if right_inwards else "d"


def coded(maze):
    """Tell the code of a drawable maze: the letters of its rings, the outermost first."""
    vet(maze)
    bows = bows_of(maze)
    # A bow leads inwards from its lesser row.
    lefts = [bow[0] for bow in bows[0]]
    rights = [bow[0] for bow in bows[1]]
    return "".join([letter_of(ring in lefts, ring in rights) for ring in range(1, len(maze[1]) + 1)])


def vet_code(side, code):
    """Tell True of a code for this side, and refuse any other thing."""
    if not isinstance(code, str) or len(code) > MOST_RINGS:
        raise NoCode(0)
    state = begun(side)
    for at, sign in enumerate(code):
        state = step(state, sign) if sign in LETTERS else None
        if state is None:
            raise NoCode(at)
    if leading_on(state) != 1:
        raise NoCode(len(code))
    return True


def rows_across(code, inwards, begins_here):
    """Tell for each row that one side's bows join the row at the other end; `inwards` are the letters of that side."""
    told = {}
    waiting = [0] if begins_here else []
    for place, letter in enumerate(code):
        row = place + 1
        if letter in inwards:
            waiting.append(row)
        else:
            outer = waiting.pop()
            told[row] = outer
            told[outer] = row
    # In a code one bow waits behind the last ring, on one of the sides: it leads to the middle.
    for outer in waiting:
        told[outer] = len(code) + 1
    return told


def decoded(side, code):
    """Tell the maze, come in on this side, of which this is the code."""
    if not is_side(side):
        raise NoMaze("no side")
    vet_code(side, code)
    across = {
        "l": rows_across(code, LEFT_INWARDS, side == "l"),
        "r": rows_across(code, RIGHT_INWARDS, side == "r"),
    }
    order = []
    bow_side = side
    row = across[bow_side][0]
    while row <= len(code):
        order.append(row)
        bow_side = other_side(bow_side)
        row = across[bow_side][row]
    return (side, tuple(order))
