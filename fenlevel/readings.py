"""Readings: which hands may have been false, and heights by which all others were right."""

from fenlevel.runs import flat, hands_of, holds, left


def is_growing(numbers):
    """True where each number is greater than the one ahead of it."""
    return all([low < high for low, high in zip(numbers, numbers[1:])])


def is_reading(size, runs, many, reading):
    """True where a pair (false, heights) is a reading with at most so many false hands, else False."""
    false, heights = reading
    if len(false) > many or not is_growing(false):
        return False
    hands = hands_of(runs)
    if not all([hand in hands for hand in false]):
        return False
    return len(heights) == size and holds(left(runs, false), heights)


def lists_of(hands, length):
    """Every growing list of so many out of a growing list of hands, as Python orders lists."""
    lists = [[]]
    for turn in range(length):
        lists = [chosen + [hand] for chosen in lists for hand in hands if not chosen or chosen[-1] < hand]
    return lists


def false_sets(size, runs, many):
    """Every growing list of at most so many hands whose striking leaves runs that close, the shortest first."""
    hands = hands_of(runs)
    found = []
    for length in range(min(many, len(hands)) + 1):
        for struck in lists_of(hands, length):
            if flat(size, left(runs, struck)) is not None:
                found.append(struck)
    return found


def reading(size, runs, many):
    """The pair of the first false set and the flat heights of the runs that are left, or None."""
    hands = hands_of(runs)
    for length in range(min(many, len(hands)) + 1):
        for struck in lists_of(hands, length):
            heights = flat(size, left(runs, struck))
            if heights is not None:
                return struck, heights
    return None


def least(size, runs):
    """The least number of hands whose striking leaves runs that close."""
    # With all hands struck no run is left, so there always is a reading to look at.
    false, heights = reading(size, runs, len(hands_of(runs)))
    return len(false)
