"""Runs laid out ahead: which hands part two marks, and what a foe could make of it."""

from fenlevel.readings import lists_of
from fenlevel.rings import some_line
from fenlevel.runs import hands_of, left
from fenlevel.sure import lifted


def parts(size, runs, struck, one, other):
    """True where a list of hands parts two marks, else False."""
    return some_line(size, runs, struck, one, other) is None


def parting(size, runs, many, one, other):
    """The first list of at most so many of the runs' hands that parts two marks, or None."""
    hands = hands_of(runs)
    for length in range(min(many, len(hands)) + 1):
        for struck in lists_of(hands, length):
            if parts(size, runs, struck, one, other):
                return struck
    return None


def foe(size, runs, many, one, other):
    """A triple (rises, first, second) of a rise for each run and two readings that differ, or None."""
    hands = parting(size, runs, 2 * many, one, other)
    if hands is None:
        return None
    first, second = hands[:many], hands[many:]
    level = [0] * size
    # Only a run of the hands that part the two leads out of what is lifted, so all other runs hold by both truths.
    higher = lifted(size, left(runs, hands), level, other)
    # Whom the first truth calls false tells by the second one; all others tell by the first.
    rises = [higher[end] - higher[start] if hand in first else 0 for start, end, rise, hand in runs]
    return rises, (first, level), (second, higher)
