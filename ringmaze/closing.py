"""Mazes of odd many rings closed to one round, and opened again."""

from ringmaze.brackets import word_of
from ringmaze.errors import NoRound
from ringmaze.mazes import bows_of, vet
from ringmaze.rounds import rounds

MOST_ENDS = 20


def middle_put_outside(bows, middle):
    """Tell bows with the end 0 in the place of the row of the middle."""
    return [(0, bow[0]) if bow[1] == middle else bow for bow in bows]


def closed(maze):
    """Tell the left and the right word of a drawable maze of odd many rings, its middle put upon the outside."""
    vet(maze)
    rings = len(maze[1])
    if rings % 2 == 0:
        raise NoRound("an even number of rings")
    # With odd many rings the middle's bow is not on the side on which the way comes in: there nothing changes.
    bows = [middle_put_outside(side_bows, rings + 1) for side_bows in bows_of(maze)]
    return (word_of(bows[0]), word_of(bows[1]))


def opened(left, right):
    """Tell the maze, come in on the left, of which two words are the closed form."""
    found = rounds(left, right)
    if len(found) != 1:
        raise NoRound("not just one round")
    if len(left) > MOST_ENDS:
        raise NoRound("too many ends")
    # The round begins at the end 0, the outside, and by a left bow, as the way does.
    return ("l", tuple(found[0][1:]))
