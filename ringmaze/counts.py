"""Drawable mazes counted, listed and numbered, by the order of their codes."""

from ringmaze.codes import coded, decoded
from ringmaze.errors import NoMaze, NoNumber
from ringmaze.states import LETTERS, begun, leading_on, step
from ringmaze.words import MOST_RINGS, is_below, is_side


def can_end(state, rows):
    """Tell whether so many rows are enough to come to one bow that leads on: each ends two at most."""
    return leading_on(state) <= 2 * rows + 1


def next_states(state):
    """Tell the states to which the letters that can be lead, in the order of the letters."""
    reached = [step(state, letter) for letter in LETTERS]
    return [ahead for ahead in reached if ahead is not None]


def ends_from(state, rows, known):
    """Tell the completions of a state; `known` keeps those found already, as many ways lead to one state."""
    if not can_end(state, rows):
        return 0
    if rows == 0:
        return 1
    key = (state, rows)
    if key not in known:
        known[key] = sum([ends_from(ahead, rows - 1, known) for ahead in next_states(state)])
    return known[key]


def ends_behind(state, letter, rows, known):
    """Tell how many codes go on from a state with this letter and so many rows behind it."""
    ahead = step(state, letter)
    return 0 if ahead is None else ends_from(ahead, rows, known)


def completions(state, rows):
    """Tell how many texts of so many letters lead from a state to one with just one sign."""
    return ends_from(state, rows, {})


def vet_rings(n):
    """Tell True of a number of rings, and refuse any other thing."""
    if not is_below(n, MOST_RINGS + 1):
        raise NoNumber("no number of rings")
    return True


def count(n):
    """Tell how many drawable mazes of n rings come in on the left."""
    vet_rings(n)
    return completions(begun("l"), n)


def codes_of(side, n):
    """Tell the codes of all drawable mazes of n rings, by the alphabet."""
    begins = [("", begun(side))]
    for rows in range(n - 1, -1, -1):
        longer = []
        for code, state in begins:
            for letter in LETTERS:
                ahead = step(state, letter)
                if ahead is not None and can_end(ahead, rows):
                    longer.append((code + letter, ahead))
        begins = longer
    return [code for code, state in begins]


def listed(side, n):
    """Tell the drawable mazes of n rings come in on this side, in the order of their codes."""
    return [decoded(side, code) for code in codes_of(side, n)]


def number_of(maze):
    """Tell how many mazes of as many rings and the same side stand ahead of a drawable maze."""
    code = coded(maze)
    known = {}
    state = begun(maze[0])
    ahead = 0
    for place, letter in enumerate(code):
        rows = len(code) - place - 1
        for lesser in LETTERS[:LETTERS.index(letter)]:
            ahead += ends_behind(state, lesser, rows, known)
        state = step(state, letter)
    return ahead


def next_letter(state, rows, ahead, known):
    """Tell the letter of the code that has so many ahead of it, and how many of these have the same letter."""
    rest = ahead
    for letter in LETTERS[:-1]:
        many = ends_behind(state, letter, rows, known)
        if rest < many:
            return (letter, rest)
        rest -= many
    return (LETTERS[-1], rest)


def numbered(side, n, number):
    """Tell the drawable maze of n rings, come in on this side, that has this number."""
    if not is_side(side):
        raise NoMaze("no side")
    vet_rings(n)
    known = {}
    state = begun(side)
    if not is_below(number, ends_from(state, n, known)):
        raise NoNumber("no number of a maze")
    code = ""
    ahead = number
    for rows in range(n - 1, -1, -1):
        found = next_letter(state, rows, ahead, known)
        code += found[0]
        ahead = found[1]
        state = step(state, found[0])
    return decoded(side, code)
