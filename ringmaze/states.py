"""States: the bows that lead on inwards behind some rows, and how a ring's letter changes them."""

LETTERS = "abcd"


def begun(side):
    """Tell the state behind row 0."""
    return "*|" if side == "l" else "|*"


def leading_on(state):
    """Tell how many bows lead on inwards: all signs but the `|` are one each."""
    return len(state) - 1


def other_end(signs, place):
    """Tell the place of the other end of a piece; that of the piece from the mouth is its own."""
    if signs[place] == "*":
        return place
    stride = 1 if signs[place] == "(" else -1
    depth = stride
    here = place
    while depth != 0:
        here += stride
        if signs[here] == "(":
            depth += 1
        elif signs[here] == ")":
            depth -= 1
    return here


def joined(left, right):
    """Tell the state in which the innermost left bow is joined with the innermost right one, or None."""
    signs = list(left + right)
    inner_right = len(left)
    inner_left = inner_right - 1
    far = [other_end(signs, inner_left), other_end(signs, inner_right)]
    if far[0] == inner_right:
        return None
    # The far ends are those of one piece now. The mouth's piece has only one: its other far end is a sign that goes.
    marks = "**" if "*" in (signs[inner_left], signs[inner_right]) else "()"
    for place, mark in zip(sorted(far), marks):
        signs[place] = mark
    return "".join(signs[:inner_left]) + "|" + "".join(signs[inner_right + 1:])


def step(state, letter):
    """Tell the state behind one more ring with this letter, or None where the letter can't be."""
    halves = state.split("|")
    left = halves[0]
    right = halves[1]
    if letter == "a":
        return left + "(|)" + right
    if letter == "b":
        return left + right[0] + "|" + right[1:] if right else None
    if letter == "c":
        return left[:-1] + "|" + left[-1] + right if left else None
    return joined(left, right) if left and right else None
