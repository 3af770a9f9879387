"""What is sure: heights that are the same by every reading that is left."""

from fenlevel.papers import none_paper, some_paper
from fenlevel.readings import false_sets
from fenlevel.runs import flat, groups, left


def lifted(size, runs, heights, mark):
    """The heights with all marks that hang together with this one lifted by one."""
    higher = list(heights)
    for group in groups(size, runs):
        if mark in group:
            for each in group:
                higher[each] += 1
    return higher


def readings_to_compare(size, runs, many, mark):
    """Readings that all have the same height from another mark to this one just where all readings have."""
    found = []
    for false in false_sets(size, runs, many):
        kept = left(runs, false)
        heights = flat(size, kept)
        found.append((list(false), heights))
        # Where the two marks don't hang together this one differs; else both are lifted.
        found.append((list(false), lifted(size, kept, heights, mark)))
    return found


def rise_between(heights, one, other):
    """By how much the other mark lies higher than the one."""
    return heights[other] - heights[one]


def told(size, runs, many, one, other):
    """("none", paper), ("sure", rise, paper) or ("open", reading, reading), whichever holds of two marks."""
    found = readings_to_compare(size, runs, many, other)
    if not found:
        return "none", none_paper(size, runs, many)
    false, heights = found[0]
    rise = rise_between(heights, one, other)
    for unlike, others in found:
        if rise_between(others, one, other) != rise:
            return "open", (false, heights), (unlike, others)
    return "sure", rise, some_paper(size, runs, many, one, other)


def places(size, runs):
    """For each mark the pair of the least mark of its group and of its flat height."""
    heights = flat(size, runs)
    found = [(mark, 0) for mark in range(size)]
    for group in groups(size, runs):
        for mark in group:
            found[mark] = (group[0], heights[mark])
    return found


def sure_groups(size, runs, many):
    """The groups of marks between which the heights are sure, or None where no reading is left."""
    tables = [places(size, left(runs, false)) for false in false_sets(size, runs, many)]
    if not tables:
        return None
    together = {}
    for mark in range(size):
        level = tables[0][mark][1]
        # By all tables two marks differ by the same just where each table lifts both alike from the first's level.
        key = tuple([(lowest, height - level) for lowest, height in [table[mark] for table in tables]])
        together.setdefault(key, []).append(mark)
    return list(together.values())
