"""Deeds: what each one makes of a fen's book, and what it refuses.

A book is all that a fen holds at one time, a dict of
- "stands": the stands, pairs (name, turn), the eldest first;
- "hands": the names of the hands, in the order in which they came;
- "aside": the names of those that are set aside, in any order;
- "runs": those that stand, (number, one, turn, other, turn, rise, hand), by their numbers;
- "entered": how many runs were entered, struck ones too;
- "allowed": how many hands may be false.
No deed changes a book: it makes another one, so that the elder one is still there to go back to.
"""

from fenlevel.errors import (Aside, BadName, BadNumber, BadRise, Full, NoHand, NoRun, NotAside, Same, Taken)
from fenlevel.names import is_name
from fenlevel.stand import last_stand, next_stand, turns_of

MOST_STANDS = 12
MOST_HANDS = 10
MOST_RUNS = 40
MOST_FALSE = 3
HIGHEST_RISE = 1000000000


def empty_book():
    """The book of a fen in which nothing was done."""
    return {"stands": (), "hands": (), "aside": (), "runs": (), "entered": 0, "allowed": 0}


def with_entry(book, word, value):
    """A book that is like another one but for one entry."""
    fresh = dict(book)
    fresh[word] = value
    return fresh


def with_new_stand(book, name):
    """The book with a new stand for the mark of a name; Full."""
    stands = book["stands"]
    if len(stands) >= MOST_STANDS:
        raise Full("there is no room for another stand")
    return with_entry(book, "stands", stands + (next_stand(stands, name),))


def need_hand(book, name):
    """Nothing where there is a hand of this name; NoHand."""
    if name not in book["hands"]:
        raise NoHand("there is no hand of this name")


def need_rise(rise):
    """Nothing where a rise is within the bounds; BadRise."""
    if abs(rise) > HIGHEST_RISE:
        raise BadRise("the rise is beyond the bounds")


def need_run(book, number):
    """Nothing where the run of a number stands; NoRun."""
    if number not in [run[0] for run in book["runs"]]:
        raise NoRun("no run of this number stands")


def mark_entered(book, row):
    """The book behind ("mark", name); BadName, Taken, Full."""
    word, name = row
    if not is_name(name):
        raise BadName("a mark's name is 1 to 8 small letters")
    if turns_of(book["stands"], name) > 0:
        raise Taken("there is a mark of this name")
    return with_new_stand(book, name)


def hand_entered(book, row):
    """The book behind ("hand", name); BadName, Taken, Full."""
    word, name = row
    hands = book["hands"]
    if not is_name(name):
        raise BadName("a hand's name is 1 to 8 small letters")
    if name in hands:
        raise Taken("there is a hand of this name")
    if len(hands) >= MOST_HANDS:
        raise Full("there is no room for another hand")
    return with_entry(book, "hands", hands + (name,))


def run_entered(book, row):
    """The book behind ("run", one, other, rise, hand); NoMark, Same, NoHand, BadRise, Full."""
    word, one, other, rise, hand = row
    start, start_turn = last_stand(book["stands"], one)
    end, end_turn = last_stand(book["stands"], other)
    if one == other:
        raise Same("a run goes between two marks")
    need_hand(book, hand)
    need_rise(rise)
    if len(book["runs"]) >= MOST_RUNS:
        raise Full("there is no room for another run")
    number = book["entered"] + 1
    run = (number, start, start_turn, end, end_turn, rise, hand)
    return with_entry(with_entry(book, "entered", number), "runs", book["runs"] + (run,))


def run_struck(book, row):
    """The book behind ("strike", number); NoRun."""
    word, number = row
    need_run(book, number)
    return with_entry(book, "runs", tuple([run for run in book["runs"] if run[0] != number]))


def run_mended(book, row):
    """The book behind ("mend", number, rise); NoRun, BadRise."""
    word, number, rise = row
    need_run(book, number)
    need_rise(rise)
    mended = [run[:5] + (rise, run[6]) if run[0] == number else run for run in book["runs"]]
    return with_entry(book, "runs", tuple(mended))


def mark_settled(book, row):
    """The book behind ("settle", name); NoMark, Full."""
    word, name = row
    settling, turn = last_stand(book["stands"], name)
    return with_new_stand(book, settling)


def hand_set_aside(book, row):
    """The book behind ("aside", hand); NoHand, Aside."""
    word, hand = row
    need_hand(book, hand)
    if hand in book["aside"]:
        raise Aside("the hand is set aside already")
    return with_entry(book, "aside", book["aside"] + (hand,))


def hand_heeded(book, row):
    """The book behind ("heed", hand); NoHand, NotAside."""
    word, hand = row
    need_hand(book, hand)
    if hand not in book["aside"]:
        raise NotAside("the hand isn't set aside")
    return with_entry(book, "aside", tuple([each for each in book["aside"] if each != hand]))


def number_allowed(book, row):
    """The book behind ("allow", many); BadNumber."""
    word, many = row
    if many < 0 or many > MOST_FALSE:
        raise BadNumber("so many false hands can't be allowed for")
    return with_entry(book, "allowed", many)


ACTIONS = {
    "mark": mark_entered, "hand": hand_entered, "run": run_entered, "strike": run_struck, "mend": run_mended,
    "settle": mark_settled, "aside": hand_set_aside, "heed": hand_heeded, "allow": number_allowed,
}


def book_behind(book, row):
    """The book behind a deed; refused as the deed is."""
    action = ACTIONS[row[0]]
    return action(book, row)
