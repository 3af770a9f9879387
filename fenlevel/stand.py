"""Stands of marks, and what is told by numbers told over by names.

Stands are pairs (name, turn), the eldest first. Where marks are numbers a
mark is the place of a stand among them, and a hand the place of its name
among the names of hands, so that growing numbers go in the order in which
marks and hands came.
"""

from fenlevel.errors import NoMark


def marks_of(stands):
    """The names of the marks that have these stands, in the order in which they came."""
    return [name for name, turn in stands if turn == 1]


def turns_of(stands, name):
    """How many stands the mark of a name has, nought where there is none."""
    return len([turn for each, turn in stands if each == name])


def next_stand(stands, name):
    """The stand that a mark of this name would get."""
    return name, turns_of(stands, name) + 1


def last_stand(stands, name):
    """The last stand of the mark of a name; NoMark."""
    turns = turns_of(stands, name)
    if turns == 0:
        raise NoMark("there is no mark of this name")
    return name, turns


def by_numbers(stands, hands, rows):
    """Runs of numbers for rows (number, one, turn, other, turn, rise, hand) of names, in their order."""
    runs = []
    for number, one, turn, other, other_turn, rise, hand in rows:
        runs.append((stands.index((one, turn)), stands.index((other, other_turn)), rise, hands.index(hand)))
    return runs


def hands_by_names(hands, numbers):
    """The list of the names of hands that are told by numbers."""
    return [hands[number] for number in numbers]


def reading_by_names(hands, reading):
    """A reading whose false hands are told by names."""
    false, heights = reading
    return hands_by_names(hands, false), list(heights)


def paper_by_names(stands, hands, rows, paper):
    """A paper with stands for marks, names for hands, and the rows' own numbers for those of runs."""
    kind, mark, line, rest = paper
    numbers = tuple([rows[place][0] for place in line])
    inner = tuple([(hands[hand], paper_by_names(stands, hands, rows, less)) for hand, less in rest])
    return kind, stands[mark], numbers, inner


def groups_by_names(stands, groups):
    """The groups of the marks by names, for groups of stands by numbers: each mark goes with its last stand."""
    together = {}
    # The last stands may have come in another order than the marks, so the marks lead.
    for name in marks_of(stands):
        place = stands.index(last_stand(stands, name))
        home = [number for number, group in enumerate(groups) if place in group][0]
        together.setdefault(home, []).append(name)
    return list(together.values())
