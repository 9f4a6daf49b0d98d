"""Lists of bows: two that cross, and how high each one lies."""


def crossing(bows):
    """Tell two bows ((a, b), (c, d)) with a < c < b < d, or None where no two cross."""
    for a, b in bows:
        for c, d in bows:
            if a < c < b < d:
                return ((a, b), (c, d))
    return None


def span(bow):
    """Tell how far apart the two numbers of a bow are."""
    return bow[1] - bow[0]


def lies_within(inner, outer):
    """Tell whether both numbers of the inner bow lie between those of the outer one."""
    return outer[0] < inner[0] and inner[1] < outer[1]


def heights(bows):
    """Tell the height of each bow, in the order of the list; no two of them may cross."""
    known = {}
    # A bow within another one is shorter, so its height is known when the outer one asks for it.
    for bow in sorted(bows, key=span):
        inner = [known[other] for other in known if lies_within(other, bow)]
        known[bow] = 1 + max(inner, default=0)
    return [known[bow] for bow in bows]
