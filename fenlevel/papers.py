"""Papers: what shows that no reading is left, or that the height between two marks is so much.

Of a paper's line either some hand is false, and then the paper of the rest
that goes with this hand shows the same, or it holds.
"""

from fenlevel.readings import reading
from fenlevel.rings import line_hands, open_ring, some_line, walked


def fits_kind(kind, mark, end, rise):
    """True where a line from a mark with this end and rise may stand under a kind."""
    if kind == "ring":
        return end == mark and rise != 0
    return kind == "line"


def is_paper_without(size, runs, paper, many, struck):
    """True where a tuple is a paper whose lines, to the last, have no run of the hands struck."""
    kind, mark, line, rest = paper
    walk = walked(runs, mark, line)
    if mark not in range(size) or walk is None:
        return False
    end, rise = walk
    hands = line_hands(runs, line)
    if not fits_kind(kind, mark, end, rise) or any([hand in struck for hand in hands]):
        return False
    wanted = hands if many > 0 else []
    if [hand for hand, inner in rest] != wanted:
        return False
    return all([is_paper_without(size, runs, inner, many - 1, struck + [hand]) for hand, inner in rest])


def is_paper(size, runs, paper, many):
    """True where a tuple is a paper for so many false hands, else False."""
    return is_paper_without(size, runs, paper, many, [])


def lines_within(paper):
    """The triples (kind, mark, line) of a paper and of all papers within it."""
    kind, mark, line, rest = paper
    found = [(kind, mark, line)]
    for hand, inner in rest:
        found.extend(lines_within(inner))
    return found


def shows_none(size, runs, paper, many):
    """True where a tuple is a paper and shows that no reading is left, else False."""
    if not is_paper(size, runs, paper, many):
        return False
    return all([kind == "ring" for kind, mark, line in lines_within(paper)])


def shows_rise(size, runs, paper, many, one, other, rise):
    """True where a tuple is a paper and shows the rise from one mark to another, else False."""
    if not is_paper(size, runs, paper, many):
        return False
    between = [(mark, walked(runs, mark, line)) for kind, mark, line in lines_within(paper) if kind == "line"]
    return all([pair == (one, (other, rise)) for pair in between])


def paper_without(size, runs, many, struck, ends):
    """A paper without the hands struck: of a ring where one is open, else of a line between the ends."""
    kind = "ring"
    found = open_ring(size, runs, struck)
    if found is None:
        kind = "line"
        one, other = ends
        found = one, some_line(size, runs, struck, one, other)
    mark, line = found
    hands = line_hands(runs, line) if many > 0 else []
    rest = [(hand, paper_without(size, runs, many - 1, struck + [hand], ends)) for hand in hands]
    return kind, mark, line, tuple(rest)


def some_paper(size, runs, many, one, other):
    """A paper that shows the rise between two marks, or that no reading is left; one of these must be so."""
    return paper_without(size, runs, many, [], (one, other))


def none_paper(size, runs, many):
    """A paper that shows that no reading is left, or None where there is one."""
    if reading(size, runs, many) is not None:
        return None
    # Without a reading a ring is open whichever hands are struck, so that the two marks play no part.
    return some_paper(size, runs, many, 0, 0)
