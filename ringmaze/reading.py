"""Drawings walked from the mouth to the middle, and read back to mazes."""

from ringmaze.drawing import MOUTH, WALL, drawn
from ringmaze.errors import NoDrawing
from ringmaze.mazes import crossed
from ringmaze.words import is_maze


def open_cells(text):
    """Tell the sign of each cell of a text that is no wall."""
    cells = {}
    for line, signs in enumerate(text.split("\n")):
        for column, sign in enumerate(signs):
            if sign != WALL:
                cells[(line, column)] = sign
    return cells


def neighbours(cell):
    """Tell the cells beside, above and below a cell."""
    line = cell[0]
    column = cell[1]
    return [(line - 1, column), (line + 1, column), (line, column - 1), (line, column + 1)]


def trail_from_mouth(cells):
    """Tell the cells from a mouth on, each one new and a neighbour of the one ahead, till there is none."""
    ahead = [cell for cell in cells if cells[cell] == MOUTH]
    trail = []
    met = {}
    while ahead:
        here = ahead[0]
        trail.append(here)
        met[here] = True
        ahead = [cell for cell in neighbours(here) if cell in cells and cell not in met]
    return trail


def maze_of_trail(trail):
    """Tell the maze of a trail, if there is one: only along the rings does a way go sideways."""
    side = "l"
    order = []
    for here, ahead in zip(trail, trail[1:]):
        ring = (here[0] - 1) // 2
        if here[0] == ahead[0] and ring not in order:
            if not order and ahead[1] < here[1]:
                side = "r"
            order.append(ring)
    return (side, tuple(order))


def is_drawing_of(text, maze):
    """Tell whether a thing is a drawable maze, and the text its drawing."""
    return is_maze(maze) and crossed(maze) is None and drawn(maze) == text


def way(text):
    """Tell all open cells of a drawing, from the mouth to the middle."""
    if not isinstance(text, str):
        raise NoDrawing("no text")
    trail = trail_from_mouth(open_cells(text))
    # A trail can be found in much that is no drawing: only the drawing made anew shows every cell to be right.
    if not is_drawing_of(text, maze_of_trail(trail)):
        raise NoDrawing("not the drawing of a maze")
    return trail


def read(text):
    """Tell the maze of which a text is the drawing, the left one of those without rings."""
    return maze_of_trail(way(text))
