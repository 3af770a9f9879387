"""Lines along runs, and rings of them that are open."""

from fenlevel.runs import hands_of
from fenlevel.trees import steps_from, tree_from, trees_of


def step(run, mark):
    """The pair (end, rise) of going along a run from a mark, or None where the run isn't there."""
    one, other, rise, hand = run
    if mark == one:
        return other, rise
    if mark == other:
        return one, -rise
    return None


def walked(runs, mark, line):
    """The pair (end, rise) of a line from a mark, or None where it is no line."""
    if len(set(line)) < len(line):
        return None
    end = mark
    total = 0
    for number in line:
        # Python would take a number below nought as a place from the list's end.
        if number < 0 or number >= len(runs):
            return None
        taken = step(runs[number], end)
        if taken is None:
            return None
        end, rise = taken
        total += rise
    return end, total


def line_hands(runs, line):
    """The hands of a line's runs, growing, each once."""
    return hands_of([runs[number] for number in line])


def some_line(size, runs, struck, one, other):
    """A line between two marks without a run of the hands struck, or None."""
    tree = tree_from(one, steps_from(size, runs, struck))
    if other not in tree:
        return None
    height, line = tree[other]
    return line


def across(first, second):
    """The line from the end of a tree's one line to the end of another of its lines."""
    shared = 0
    while shared < min(len(first), len(second)) and first[shared] == second[shared]:
        shared += 1
    # What both share would be gone twice, and no line may do that.
    return first[shared:][::-1] + second[shared:]


def open_ring(size, runs, struck):
    """A pair (mark, line) of an open ring without a run of the hands struck, or None."""
    reached = {}
    for tree in trees_of(size, runs, struck):
        reached.update(tree)
    for number, (one, other, rise, hand) in enumerate(runs):
        low, to_one = reached[one]
        high, to_other = reached[other]
        # A tree's own runs hold under its heights, so one that doesn't is in no line of it.
        if hand not in struck and high - low != rise:
            return one, (number,) + across(to_other, to_one)
    return None
