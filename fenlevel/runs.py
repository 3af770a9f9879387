"""Runs: their hands, the marks that hang together by them, the heights under which they hold."""

from fenlevel.trees import trees_of


def hands_of(runs):
    """The hands that the runs have, growing, each once."""
    return sorted({hand for one, other, rise, hand in runs})


def left(runs, struck):
    """The runs that are left, in their order, when hands are struck."""
    return [(one, other, rise, hand) for one, other, rise, hand in runs if hand not in struck]


def holds(runs, heights):
    """True where all runs hold under the heights, else False."""
    return all([heights[other] - heights[one] == rise for one, other, rise, hand in runs])


def groups(size, runs):
    """The groups of marks that hang together, each growing, in the order of their least marks."""
    return [sorted(tree) for tree in trees_of(size, runs, [])]


def flat(size, runs):
    """The heights under which all runs hold, nought at each group's least mark, or None."""
    heights = [0] * size
    for tree in trees_of(size, runs, []):
        for mark, (height, line) in tree.items():
            heights[mark] = height
    # A tree's own runs leave no choice of heights, so if these fail, no others hold.
    if holds(runs, heights):
        return heights
    return None
