"""Lines that an office answers: their forms, and how what is told is written."""

from fenlevel.errors import (Aside, BadName, BadNumber, BadRise, Full, Known, NoDeed, NoFen, NoHand, NoMark, NoRun,
                             NotAside, NothingLeft, Same, Settled, Steady, Taken)
from fenlevel.pages import deed_of

# How many words a line of each form has; one with a deed has as many as the deed wants.
LENGTHS = {
    "open": 2, "copy": 3, "close": 2, "join": 4, "names": 1, "back": 2, "again": 2, "marks": 2, "hands": 2,
    "asides": 2, "runs": 2, "least": 2, "height": 4, "sank": 3, "false": 2, "groups": 2, "parting": 4,
}


def is_deed(words):
    """True where words are those of a deed's row."""
    try:
        deed_of(" ".join(words))
    except NoDeed:
        return False
    return True


def is_form(words):
    """True where words are those of a line that can be answered."""
    if "" in words:
        return False
    if words[0] == "in":
        return is_deed(words[2:])
    return LENGTHS.get(words[0]) == len(words)


def parts_text(parts):
    """The parts of one thing, names and numbers, with a blank between."""
    return " ".join([str(part) for part in parts])


def names_text(names):
    """Names with a blank between, a word for none of them."""
    if not names:
        return "none"
    return " ".join(names)


def rows_text(rows):
    """Rows of things with a sign between, a word for none of them."""
    if not rows:
        return "none"
    return "; ".join(rows)


def hands_text(hands):
    """Hands that are false, or that part two marks, with a word for none of them."""
    if not hands:
        return "nobody"
    return " ".join(hands)


def answer_open(office, words):
    """The answer to `open NAME`."""
    office.open_one(words[1])
    return "opened"


def answer_copy(office, words):
    """The answer to `copy NAME OTHER`."""
    office.copy_one(words[1], words[2])
    return "copied"


def answer_close(office, words):
    """The answer to `close NAME`."""
    office.close(words[1])
    return "closed"


def answer_join(office, words):
    """The answer to `join NAME OTHER NEW`."""
    office.join(words[1], words[2], words[3])
    return "joined"


def answer_names(office, words):
    """The answer to `names`."""
    return names_text(office.names())


def answer_in(office, words):
    """The answer to `in NAME DEED`."""
    number = office.deed(words[1], deed_of(" ".join(words[2:])))
    # Only a run is told of by a number.
    if number is None:
        return "done"
    return f"run {number}"


def answer_back(office, words):
    """The answer to `back NAME`."""
    office.back(words[1])
    return "back"


def answer_again(office, words):
    """The answer to `again NAME`."""
    office.again(words[1])
    return "again"


def answer_marks(office, words):
    """The answer to `marks NAME`."""
    return names_text(office.view(words[1]).marks())


def answer_hands(office, words):
    """The answer to `hands NAME`."""
    return names_text(office.view(words[1]).hands())


def answer_asides(office, words):
    """The answer to `asides NAME`."""
    return names_text(office.view(words[1]).asides())


def answer_runs(office, words):
    """The answer to `runs NAME`."""
    return rows_text([parts_text(run) for run in office.view(words[1]).runs()])


def answer_least(office, words):
    """The answer to `least NAME`."""
    return str(office.view(words[1]).least())


def answer_height(office, words):
    """The answer to `height NAME MARK MARK`."""
    return parts_text(office.view(words[1]).height(words[2], words[3]))


def answer_sank(office, words):
    """The answer to `sank NAME MARK`."""
    return parts_text(office.view(words[1]).sank(words[2]))


def answer_false(office, words):
    """The answer to `false NAME`."""
    return rows_text([hands_text(hands) for hands in office.view(words[1]).false_sets()])


def answer_groups(office, words):
    """The answer to `groups NAME`."""
    groups = office.view(words[1]).groups()
    if groups is None:
        return "none"
    return rows_text([names_text(group) for group in groups])


def answer_parting(office, words):
    """The answer to `parting NAME MARK MARK`."""
    hands = office.view(words[1]).parting(words[2], words[3])
    if hands is None:
        return "safe"
    return hands_text(hands)


ANSWERS = {
    "open": answer_open, "copy": answer_copy, "close": answer_close, "join": answer_join, "names": answer_names,
    "in": answer_in, "back": answer_back, "again": answer_again, "marks": answer_marks, "hands": answer_hands,
    "asides": answer_asides, "runs": answer_runs, "least": answer_least, "height": answer_height,
    "sank": answer_sank, "false": answer_false, "groups": answer_groups, "parting": answer_parting,
}


def answer_or_refusal(office, words):
    """The answer to a line that has one of the forms, or which class refused it."""
    action = ANSWERS[words[0]]
    try:
        return action(office, words)
    except BadName:
        return "no BadName"
    except Taken:
        return "no Taken"
    except Full:
        return "no Full"
    except NoMark:
        return "no NoMark"
    except NoHand:
        return "no NoHand"
    except Same:
        return "no Same"
    except BadRise:
        return "no BadRise"
    except NoRun:
        return "no NoRun"
    except Aside:
        return "no Aside"
    except NotAside:
        return "no NotAside"
    except BadNumber:
        return "no BadNumber"
    except NothingLeft:
        return "no NothingLeft"
    except Steady:
        return "no Steady"
    except Known:
        return "no Known"
    except NoFen:
        return "no NoFen"
    except Settled:
        return "no Settled"


def answer(office, line):
    """What an office answers to a line."""
    words = line.split(" ")
    if not is_form(words):
        return "no line"
    return answer_or_refusal(office, words)
