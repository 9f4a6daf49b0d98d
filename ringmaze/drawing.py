"""Drawings of mazes, sign by sign."""

from ringmaze.bows import heights
from ringmaze.mazes import bows_of, vet

WALL = "#"
OPEN_CELL = "."
MOUTH = "v"
MIDDLE = "@"


def line_of(row):
    """Tell the line on which a row lies."""
    return 2 * row + 1


def greatest_height(bows):
    """Tell how high the highest bow lies, 0 where there is none."""
    return max(heights(bows), default=0)


def by_row(bows, columns):
    """Tell for each row that a bow joins the column of this bow."""
    told = {}
    for bow, column in zip(bows, columns):
        told[bow[0]] = column
        told[bow[1]] = column
    return told


def left_columns(bows, most_left):
    """Tell for each row the column of its left bow."""
    return by_row(bows, [2 * (most_left - height) + 1 for height in heights(bows)])


def right_columns(bows, most_left):
    """Tell for each row the column of its right bow."""
    return by_row(bows, [2 * most_left + 2 * height - 1 for height in heights(bows)])


def carve_bows(grid, bows, columns):
    """Open the cells of the bows, each in its column."""
    for a, b in bows:
        for line in range(line_of(a), line_of(b) + 1):
            grid[line][columns[a]] = OPEN_CELL


def carve_rings(grid, rings, lefts, rights):
    """Open the cells of the rings 1 to so many, each from its left bow to its right one."""
    for ring in range(1, rings + 1):
        for column in range(lefts[ring], rights[ring] + 1):
            grid[line_of(ring)][column] = OPEN_CELL


def mark(line, sign):
    """Write the sign into the one open cell of a line."""
    line[line.index(OPEN_CELL)] = sign


def drawn(maze):
    """Tell the drawing of a drawable maze; any other thing is refused."""
    vet(maze)
    rings = len(maze[1])
    bows = bows_of(maze)
    most_left = greatest_height(bows[0])
    most_right = greatest_height(bows[1])
    lefts = left_columns(bows[0], most_left)
    rights = right_columns(bows[1], most_left)
    grid = [[WALL] * (2 * (most_left + most_right) + 1) for line in range(2 * rings + 5)]
    carve_bows(grid, bows[0], lefts)
    carve_bows(grid, bows[1], rights)
    carve_rings(grid, rings, lefts, rights)
    mark(grid[line_of(0)], MOUTH)
    mark(grid[line_of(rings + 1)], MIDDLE)
    return "\n".join(["".join(line) for line in grid])
