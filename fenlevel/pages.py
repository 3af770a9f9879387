"""Deeds written as rows, and fens as pages of them."""

from fenlevel.errors import FenError, NoDeed, NoPage
from fenlevel.fen import Fen
from fenlevel.names import is_name, is_number, is_rise

FIRST_ROW = "fen"
# What follows a deed's word, in its row as in its tuple.
FORMS = {
    "mark": ("name",), "hand": ("name",), "run": ("name", "name", "rise", "name"), "strike": ("number",),
    "mend": ("number", "rise"), "settle": ("name",), "aside": ("name",), "heed": ("name",), "allow": ("number",),
}


def deed_text(deed):
    """The row in which a deed is written."""
    return " ".join([str(part) for part in deed])


def is_written_as(kind, text):
    """True where a text is written as a name, a number or a rise."""
    if kind == "name":
        return is_name(text)
    if kind == "number":
        return is_number(text)
    return is_rise(text)


def deed_of(text):
    """The deed that is written in a row; NoDeed."""
    word, *texts = text.split(" ")
    if word not in FORMS or len(FORMS[word]) != len(texts):
        raise NoDeed("no deed has this word and so many behind it")
    kinds = FORMS[word]
    if not all([is_written_as(kind, part) for kind, part in zip(kinds, texts)]):
        raise NoDeed("a name or a number isn't so written")
    parts = [part if kind == "name" else int(part) for kind, part in zip(kinds, texts)]
    return tuple([word] + parts)


def page(fen):
    """A fen's page: its first row, then the deeds that it keeps."""
    return "\n".join([FIRST_ROW] + [deed_text(deed) for deed in fen.deeds()])


def fen_from(text):
    """The fen that a page tells of; NoPage with the number of the first wrong row."""
    rows = text.split("\n")
    if rows[0] != FIRST_ROW:
        raise NoPage(0)
    fen = Fen()
    for number, row in enumerate(rows[1:], start=1):
        try:
            fen.deed(deed_of(row))
        except FenError:
            raise NoPage(number) from None
    return fen
