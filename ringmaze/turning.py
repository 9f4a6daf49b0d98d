"""Mazes mirrored, and turned inside out."""

from ringmaze.mazes import other_side, side_of_step


def mirrored(maze):
    """Tell the maze with the same order and the other side."""
    return (other_side(maze[0]), maze[1])


def inside_out(maze):
    """Tell the maze with the rows the other way round and the way backwards."""
    order = maze[1]
    rings = len(order)
    turned = [rings + 1 - ring for ring in reversed(order)]
    # The last bow, which the turned way comes in by, is step n of the n + 1 steps from 0.
    return (side_of_step(maze, rings), tuple(turned))
