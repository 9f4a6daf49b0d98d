"""Mazes put one within the other, and taken apart."""

from ringmaze.errors import NoMaze
from ringmaze.mazes import side_of_step
from ringmaze.words import MOST_RINGS, is_maze


def within(one, other):
    """Tell the maze of two, the second one's rings within those of the first one."""
    if not is_maze(one) or not is_maze(other):
        raise NoMaze("no maze")
    rings = len(one[1])
    if rings + len(other[1]) > MOST_RINGS:
        raise NoMaze("too many rings together")
    return (one[0], one[1] + tuple([rings + ring for ring in other[1]]))


def cuts(order):
    """Tell each number k of rings, from 1 to all of them, of which the first k are the rings 1 to k."""
    told = []
    innermost = 0
    for place, ring in enumerate(order):
        innermost = max(innermost, ring)
        # No ring stands twice, so k rings of which none lies further in than ring k are the rings 1 to k.
        if innermost == place + 1:
            told.append(place + 1)
    return told


def apart(maze):
    """Tell the parts of a maze, the outermost first, none of which can be taken apart."""
    order = maze[1]
    told = []
    start = 0
    for cut in cuts(order):
        rings = [ring - start for ring in order[start:cut]]
        told.append((side_of_step(maze, start), tuple(rings)))
        start = cut
    return told
