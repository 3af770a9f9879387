"""A fen: its marks, hands and runs, entered by deeds that can be taken back, and what is asked of them."""

from fenlevel.deeds import book_behind, empty_book
from fenlevel.errors import NothingLeft, Steady
from fenlevel.parting import foe, parting
from fenlevel.readings import false_sets, least
from fenlevel.stand import (by_numbers, groups_by_names, hands_by_names, last_stand, marks_of, paper_by_names,
                            reading_by_names)
from fenlevel.sure import sure_groups, told


def rows_that_count(book):
    """The runs of a book that stand and whose hands are heeded."""
    return [run for run in book["runs"] if run[6] not in book["aside"]]


def runs_that_count(book):
    """The same runs by numbers, as they are asked of."""
    return by_numbers(book["stands"], book["hands"], rows_that_count(book))


def place_of(book, name):
    """The number of the last stand of a mark; NoMark."""
    stands = book["stands"]
    return stands.index(last_stand(stands, name))


def told_between(book, one, other):
    """What is told of two stands, by their numbers."""
    return told(len(book["stands"]), runs_that_count(book), book["allowed"], one, other)


def told_of(book, one, other):
    """What is told of two marks; NoMark."""
    return told_between(book, place_of(book, one), place_of(book, other))


def without_proof(answer):
    """What is told of a height, without the paper or the readings that show it."""
    if answer[0] == "sure":
        return answer[:2]
    return answer[:1]


class Fen:
    """A fen. Deeds that are refused change nothing, and neither does what only asks."""

    def __init__(self):
        self.kept = []
        # A book ahead of all deeds and one behind each of them, so that going back is to drop the last.
        self.books = [empty_book()]
        self.undone = []

    def now(self):
        """The book as it is now."""
        return self.books[-1]

    def mark(self, name):
        """Enters a new mark; BadName, Taken, Full."""
        self.deed(("mark", name))

    def hand(self, name):
        """Enters a new hand; BadName, Taken, Full."""
        self.deed(("hand", name))

    def run(self, one, other, rise, hand):
        """Enters a run and tells its number; NoMark, Same, NoHand, BadRise, Full."""
        return self.deed(("run", one, other, rise, hand))

    def strike(self, number):
        """Strikes a run out; NoRun."""
        self.deed(("strike", number))

    def mend(self, number, rise):
        """Puts a run right; NoRun, BadRise."""
        self.deed(("mend", number, rise))

    def settle(self, name):
        """Gives a mark a new stand; NoMark, Full."""
        self.deed(("settle", name))

    def aside(self, hand):
        """Sets a hand aside; NoHand, Aside."""
        self.deed(("aside", hand))

    def heed(self, hand):
        """Heeds a hand again; NoHand, NotAside."""
        self.deed(("heed", hand))

    def allow(self, many):
        """Allows for so many false hands; BadNumber."""
        self.deed(("allow", many))

    def deed(self, row):
        """Does a deed and tells what its method tells; refused as the deed is."""
        book = book_behind(self.now(), row)
        self.kept.append(row)
        self.books.append(book)
        self.undone = []
        if row[0] == "run":
            return book["entered"]
        return None

    def back(self):
        """Takes the last deed back; NothingLeft."""
        if not self.kept:
            raise NothingLeft("there is nothing to take back")
        self.undone.append((self.kept.pop(), self.books.pop()))

    def again(self):
        """Does again what was taken back last; NothingLeft."""
        if not self.undone:
            raise NothingLeft("there is nothing to do again")
        row, book = self.undone.pop()
        self.kept.append(row)
        self.books.append(book)

    def deeds(self):
        """The deeds that are kept, the eldest first."""
        return list(self.kept)

    def twin(self):
        """Another fen, alike in all that can be asked, taken back and done again."""
        other = Fen()
        other.kept = list(self.kept)
        other.books = list(self.books)
        other.undone = list(self.undone)
        return other

    def marks(self):
        """The names of the marks."""
        return marks_of(self.now()["stands"])

    def hands(self):
        """The names of the hands."""
        return list(self.now()["hands"])

    def asides(self):
        """The names of the hands that are set aside, in the order in which the hands came."""
        book = self.now()
        return [hand for hand in book["hands"] if hand in book["aside"]]

    def stands(self):
        """The stands, the eldest first."""
        return list(self.now()["stands"])

    def allowed(self):
        """How many false hands are allowed for."""
        return self.now()["allowed"]

    def runs(self):
        """The runs that stand, tuples (number, one, turn, other, turn, rise, hand), by their numbers."""
        return list(self.now()["runs"])

    def counting(self):
        """The numbers of the runs that count."""
        return [run[0] for run in rows_that_count(self.now())]

    def height(self, one, other):
        """("none",), ("sure", rise) or ("open",), whichever holds of two marks; NoMark."""
        return without_proof(told_of(self.now(), one, other))

    def paper(self, one, other):
        """A paper that shows what height tells, or None where that is open; NoMark."""
        book = self.now()
        answer = told_of(book, one, other)
        if answer[0] == "open":
            return None
        return paper_by_names(book["stands"], book["hands"], rows_that_count(book), answer[-1])

    def readings(self, one, other):
        """Two readings that differ in the height of two marks, or None where it isn't open; NoMark."""
        book = self.now()
        answer = told_of(book, one, other)
        if answer[0] != "open":
            return None
        return reading_by_names(book["hands"], answer[1]), reading_by_names(book["hands"], answer[2])

    def sank(self, name):
        """As height, from a mark's last stand but one to its last one; NoMark, Steady."""
        book = self.now()
        same, turn = last_stand(book["stands"], name)
        if turn == 1:
            raise Steady("the mark has never settled")
        elder = book["stands"].index((same, turn - 1))
        return without_proof(told_between(book, elder, place_of(book, name)))

    def false_sets(self):
        """The false sets for as many as are allowed for, lists of names."""
        book = self.now()
        found = false_sets(len(book["stands"]), runs_that_count(book), book["allowed"])
        return [hands_by_names(book["hands"], numbers) for numbers in found]

    def least(self):
        """The least number of false hands."""
        book = self.now()
        return least(len(book["stands"]), runs_that_count(book))

    def groups(self):
        """The sure groups of the marks, lists of names, or None where no reading is left."""
        book = self.now()
        found = sure_groups(len(book["stands"]), runs_that_count(book), book["allowed"])
        if found is None:
            return None
        return groups_by_names(book["stands"], found)

    def parting(self, one, other):
        """The first list of at most twice as many hands as are allowed for that parts two marks, or None; NoMark."""
        book = self.now()
        start, end = place_of(book, one), place_of(book, other)
        numbers = parting(len(book["stands"]), runs_that_count(book), 2 * book["allowed"], start, end)
        if numbers is None:
            return None
        return hands_by_names(book["hands"], numbers)

    def foe(self, one, other):
        """A foe's book for two marks, with rises of the runs that count, or None; NoMark."""
        book = self.now()
        start, end = place_of(book, one), place_of(book, other)
        found = foe(len(book["stands"]), runs_that_count(book), book["allowed"], start, end)
        if found is None:
            return None
        rises, first, second = found
        return rises, reading_by_names(book["hands"], first), reading_by_names(book["hands"], second)


def fen_of(deeds):
    """A fen in which a list of deeds was done, one by one; refused as the first that is refused."""
    fen = Fen()
    for row in deeds:
        fen.deed(row)
    return fen
