"""An office: fens by names, and lines that it answers."""

from fenlevel.errors import BadName, Known, NoFen, Same, Settled
from fenlevel.fen import Fen, fen_of
from fenlevel.lines import answer
from fenlevel.names import is_name
from fenlevel.pages import fen_from, page


def has_settled(fen):
    """True where some mark of a fen has settled."""
    return len(fen.stands()) > len(fen.marks())


def each_once(names, others):
    """The names, then the others as far as they aren't there."""
    return names + [name for name in others if name not in names]


def joined_deeds(first, second):
    """The deeds that make one fen of two."""
    hands = each_once(first.hands(), second.hands())
    deeds = [("mark", name) for name in each_once(first.marks(), second.marks())]
    deeds.extend([("hand", name) for name in hands])
    for number, one, turn, other, other_turn, rise, hand in first.runs() + second.runs():
        deeds.append(("run", one, other, rise, hand))
    asides = first.asides() + second.asides()
    deeds.extend([("aside", hand) for hand in hands if hand in asides])
    many = max(first.allowed(), second.allowed())
    if many > 0:
        deeds.append(("allow", many))
    return deeds


def joined(first, second):
    """A fen made of two; Settled, Full."""
    if has_settled(first) or has_settled(second):
        raise Settled("a mark has settled")
    # Where there would be too many marks, hands or runs one of these deeds is refused with Full.
    return fen_of(joined_deeds(first, second))


class Office:
    """An office. What is refused changes nothing."""

    def __init__(self):
        self.fens = {}

    def fen_called(self, name):
        """The fen of a name, not a twin of it; NoFen."""
        if name not in self.fens:
            raise NoFen("there is no fen of this name")
        return self.fens[name]

    def need_free(self, name):
        """Nothing where a new fen may have this name; BadName, Known."""
        if not is_name(name):
            raise BadName("a fen's name is 1 to 8 small letters")
        if name in self.fens:
            raise Known("there is a fen of this name")

    def open_one(self, name):
        """Opens an empty fen under a name; BadName, Known."""
        self.need_free(name)
        self.fens[name] = Fen()

    def read(self, name, text):
        """Opens the fen of a page under a name; BadName, Known, NoPage."""
        self.need_free(name)
        self.fens[name] = fen_from(text)

    def copy_one(self, name, other):
        """Opens a twin of a fen under another name; NoFen, BadName, Known."""
        fen = self.fen_called(name)
        self.need_free(other)
        self.fens[other] = fen.twin()

    def close(self, name):
        """Closes a fen, so that its name is free; NoFen."""
        self.fen_called(name)
        del self.fens[name]

    def join(self, name, other, new):
        """Opens a fen made of two under a new name; NoFen, Same, BadName, Known, Settled, Full."""
        first = self.fen_called(name)
        second = self.fen_called(other)
        if name == other:
            raise Same("a fen isn't joined with itself")
        self.need_free(new)
        self.fens[new] = joined(first, second)

    def names(self):
        """The names of the fens, in the order in which they came."""
        return list(self.fens)

    def view(self, name):
        """A twin of a fen; NoFen."""
        return self.fen_called(name).twin()

    def page(self, name):
        """The page of a fen; NoFen."""
        return page(self.fen_called(name))

    def deed(self, name, row):
        """Does a deed in a fen and tells what it tells there; NoFen, then as the deed is refused."""
        return self.fen_called(name).deed(row)

    def back(self, name):
        """Takes the last deed of a fen back; NoFen, NothingLeft."""
        self.fen_called(name).back()

    def again(self, name):
        """Does again what was taken back last in a fen; NoFen, NothingLeft."""
        self.fen_called(name).again()

    def say(self, line):
        """The answer to a line."""
        return answer(self, line)
