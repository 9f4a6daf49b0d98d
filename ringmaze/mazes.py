"""The bows of a maze, and whether it can be drawn."""

from ringmaze.bows import crossing
from ringmaze.errors import Crossed, NoMaze
from ringmaze.words import SIDES, is_maze


def other_side(side):
    """Tell the side across the spoke."""
    return "r" if side == "l" else "l"


def side_of_step(maze, step):
    """Tell the side of a step of the way; the steps are numbered from 0."""
    side = maze[0]
    return side if step % 2 == 0 else other_side(side)


def rows_of_way(maze):
    """Tell the rows in the order in which the way comes to them, outside and middle too."""
    order = maze[1]
    return [0] + list(order) + [len(order) + 1]


def bows_of(maze):
    """Tell the bows of a maze: the left ones and the right ones, each sorted."""
    rows = rows_of_way(maze)
    told = {"l": [], "r": []}
    for step in range(len(rows) - 1):
        bow = tuple(sorted(rows[step:step + 2]))
        told[side_of_step(maze, step)].append(bow)
    return (sorted(told["l"]), sorted(told["r"]))


def crossed(maze):
    """Tell a side and two bows that cross on it, or None where the maze is drawable."""
    for side, bows in zip(SIDES, bows_of(maze)):
        found = crossing(bows)
        if found is not None:
            return (side, found[0], found[1])
    return None


def vet(maze):
    """Tell True of a drawable maze, and refuse any other thing."""
    if not is_maze(maze):
        raise NoMaze("no maze")
    found = crossed(maze)
    if found is not None:
        raise Crossed(found)
    return True
