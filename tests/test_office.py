import copy
import random
import unittest

from fenlevel import errors
from fenlevel.fen import Fen, fen_of
from fenlevel.office import Office
from fenlevel.pages import deed_text, page
from tests.helpers import all_asked, drawn_deeds, plain_book, refused, to_do_again

BAD_NAMES = ["", "A", "aB", "abcdefghi", "a b", " a", "a\n", "a1", "-", "\u00e9"]
# What the second fen has in common with the first lies in another order there.
FIRST = [("mark", "oak"), ("mark", "barn"), ("hand", "zed"), ("hand", "kim"), ("run", "oak", "barn", 5, "kim"),
         ("run", "barn", "oak", -6, "zed"), ("run", "oak", "barn", 7, "zed"), ("strike", 2), ("aside", "kim"),
         ("allow", 1)]
SECOND = [("hand", "ann"), ("hand", "kim"), ("hand", "zed"), ("mark", "pole"), ("mark", "barn"), ("allow", 3),
          ("run", "pole", "barn", 1, "ann"), ("run", "barn", "pole", 2, "kim"), ("mend", 1, 4), ("aside", "zed"),
          ("aside", "ann"), ("heed", "zed"), ("allow", 2)]
JOINED = [("mark", "oak"), ("mark", "barn"), ("mark", "pole"), ("hand", "zed"), ("hand", "kim"), ("hand", "ann"),
          ("run", "oak", "barn", 5, "kim"), ("run", "oak", "barn", 7, "zed"), ("run", "pole", "barn", 4, "ann"),
          ("run", "barn", "pole", 2, "kim"), ("aside", "kim"), ("aside", "ann"), ("allow", 2)]


def paged(deeds):
    return "\n".join(["fen"] + [deed_text(deed) for deed in deeds])


def some_office():
    """An office with two fens, each with something to do again, and an empty one."""
    office = Office()
    office.read("one", paged(FIRST + [("mark", "gone")]))
    office.read("two", paged(SECOND + [("hand", "gone")]))
    office.open_one("three")
    office.back("one")
    office.back("two")
    return office


def all_of(office):
    """All that can be asked of an office, with what can be done again."""
    return [(name, office.page(name), all_asked(office.view(name)), to_do_again(office.view(name)))
            for name in office.names()]


class Offices(unittest.TestCase):
    def check_refused(self, wanted, word, *arguments, office=None):
        office = office or some_office()
        ahead = all_of(office)
        with self.subTest(word=word, arguments=arguments):
            self.assertIs(refused(getattr(office, word), *arguments), wanted)
            self.assertEqual(all_of(office), ahead)


class OpenAndClose(Offices):
    def test_an_empty_office(self):
        self.assertEqual(Office().names(), [])

    def test_open_one(self):
        office = Office()
        for name in ("b", "abcdefgh", "a"):
            self.assertIsNone(office.open_one(name))
            self.assertEqual(all_asked(office.view(name)), all_asked(Fen()))
            self.assertEqual(office.page(name), "fen")
        self.assertEqual(office.names(), ["b", "abcdefgh", "a"])

    def test_open_one_refused(self):
        for name in BAD_NAMES:
            self.check_refused(errors.BadName, "open_one", name)
        self.check_refused(errors.Known, "open_one", "one")

    def test_read(self):
        office = Office()
        self.assertIsNone(office.read("one", paged(FIRST)))
        self.assertEqual(office.view("one").deeds(), FIRST)
        self.assertEqual(office.page("one"), paged(FIRST))
        self.assertEqual(to_do_again(office.view("one")), [])
        self.assertEqual(all_asked(office.view("one")), all_asked(fen_of(FIRST)))
        for turn in FIRST:
            office.back("one")
        self.assertIs(refused(office.back, "one"), errors.NothingLeft)

    def test_read_refused(self):
        for name in BAD_NAMES:
            self.check_refused(errors.BadName, "read", name, "fen")
            self.check_refused(errors.BadName, "read", name, "")
        self.check_refused(errors.Known, "read", "one", "fen")
        self.check_refused(errors.Known, "read", "one", "no page")
        for text in ("", "fen\n", "fen\nmark a\nmark a"):
            self.check_refused(errors.NoPage, "read", "new", text)
        with self.assertRaises(errors.NoPage) as caught:
            Office().read("new", "fen\nmark a\nmark a")
        self.assertEqual(caught.exception.row, 2)

    def test_copy_one(self):
        office = some_office()
        self.assertIsNone(office.copy_one("one", "new"))
        self.assertEqual(office.names(), ["one", "two", "three", "new"])
        self.assertEqual(all_asked(office.view("new")), all_asked(office.view("one")))
        self.assertEqual(to_do_again(office.view("new")), [("mark", "gone")])

    def test_copy_one_refused(self):
        for name in BAD_NAMES:
            self.check_refused(errors.BadName, "copy_one", "one", name)
            self.check_refused(errors.NoFen, "copy_one", name, "new")
            self.check_refused(errors.NoFen, "copy_one", "four", name)
        self.check_refused(errors.NoFen, "copy_one", "four", "one")
        self.check_refused(errors.NoFen, "copy_one", "four", "four")
        self.check_refused(errors.Known, "copy_one", "one", "two")
        self.check_refused(errors.Known, "copy_one", "one", "one")

    def test_close(self):
        office = some_office()
        self.assertIsNone(office.close("two"))
        self.assertEqual(office.names(), ["one", "three"])
        self.assertIs(refused(office.view, "two"), errors.NoFen)
        self.assertIs(refused(office.close, "two"), errors.NoFen)
        office.open_one("two")
        self.assertEqual(office.names(), ["one", "three", "two"])
        self.assertEqual(office.page("two"), "fen")
        self.assertIs(refused(office.again, "two"), errors.NothingLeft)
        office.close("one")
        office.copy_one("two", "one")
        self.assertEqual(office.names(), ["three", "two", "one"])

    def test_close_refused(self):
        for name in BAD_NAMES + ["four"]:
            self.check_refused(errors.NoFen, "close", name)

    def test_no_fen_first(self):
        for name in BAD_NAMES + ["four"]:
            for word in ("view", "page", "back", "again"):
                self.check_refused(errors.NoFen, word, name)
            self.check_refused(errors.NoFen, "deed", name, ("mark", "A"))
        self.check_refused(errors.NoFen, "back", "a", office=Office())

    def test_names_may_be_changed(self):
        office = some_office()
        office.names().clear()
        self.assertEqual(office.names(), ["one", "two", "three"])


class InFens(Offices):
    def test_deeds(self):
        office = Office()
        office.open_one("a")
        numbers = [office.deed("a", row) for row in FIRST]
        self.assertEqual(numbers, [None] * 4 + [1, 2, 3] + [None] * 3)
        self.assertEqual(office.view("a").deeds(), FIRST)
        self.assertIsNone(office.back("a"))
        self.assertEqual(office.view("a").deeds(), FIRST[:-1])
        self.assertIsNone(office.again("a"))
        self.assertEqual(office.view("a").deeds(), FIRST)

    def test_refused(self):
        self.check_refused(errors.BadName, "deed", "one", ("mark", "A"))
        self.check_refused(errors.NoRun, "deed", "one", ("strike", 2))
        self.check_refused(errors.NothingLeft, "back", "three")
        self.check_refused(errors.NothingLeft, "again", "three")

    def test_what_is_done_in_one_is_not_seen_in_another(self):
        office = some_office()
        office.copy_one("one", "four")
        office.join("one", "two", "five")
        office.copy_one("five", "six")
        for name in office.names():
            others = [each for each in all_of(office) if each[0] != name]
            office.deed(name, ("mark", "new"))
            office.back(name)
            self.assertEqual(to_do_again(office.view(name)), [("mark", "new")])
            office.again(name)
            office.deed(name, ("settle", "new"))
            self.assertEqual([each for each in all_of(office) if each[0] != name], others)

    def test_what_is_done_in_a_view_is_not_seen(self):
        office = some_office()
        ahead = all_of(office)
        view = office.view("one")
        self.assertIsInstance(view, Fen)
        view.again()
        view.mark("new")
        view.back()
        view.back()
        view.back()
        view.allow(3)
        self.assertEqual(all_of(office), ahead)
        view = office.view("one")
        wanted = copy.deepcopy(all_asked(view))
        office.deed("one", ("mark", "new"))
        office.close("one")
        self.assertEqual(all_asked(view), wanted)
        self.assertEqual(to_do_again(view), [("mark", "gone")])


class Join(Offices):
    def test_deeds(self):
        office = some_office()
        ahead = all_of(office)
        self.assertIsNone(office.join("one", "two", "new"))
        self.assertEqual(office.names(), ["one", "two", "three", "new"])
        self.assertEqual(office.view("new").deeds(), JOINED)
        self.assertEqual(office.page("new"), page(fen_of(JOINED)))
        self.assertEqual(to_do_again(office.view("new")), [])
        self.assertEqual(all_of(office)[:3], ahead)
        for turn in JOINED:
            office.back("new")
        self.assertIs(refused(office.back, "new"), errors.NothingLeft)
        self.assertEqual(all_of(office)[:3], ahead)

    def test_the_other_way_round(self):
        office = some_office()
        office.join("two", "one", "new")
        self.assertEqual(office.view("new").deeds(), [
            ("mark", "pole"), ("mark", "barn"), ("mark", "oak"), ("hand", "ann"), ("hand", "kim"), ("hand", "zed"),
            ("run", "pole", "barn", 4, "ann"), ("run", "barn", "pole", 2, "kim"), ("run", "oak", "barn", 5, "kim"),
            ("run", "oak", "barn", 7, "zed"), ("aside", "ann"), ("aside", "kim"), ("allow", 2)])

    def test_with_an_empty_one(self):
        office = some_office()
        office.open_one("four")
        office.join("three", "four", "none")
        self.assertEqual(office.view("none").deeds(), [])
        office.join("three", "one", "first")
        office.join("one", "three", "last")
        wanted = [("mark", "oak"), ("mark", "barn"), ("hand", "zed"), ("hand", "kim"),
                  ("run", "oak", "barn", 5, "kim"), ("run", "oak", "barn", 7, "zed"), ("aside", "kim"), ("allow", 1)]
        self.assertEqual(office.view("first").deeds(), wanted)
        self.assertEqual(office.view("last").deeds(), wanted)

    def test_the_greater_number_allowed(self):
        for one, two in [(0, 0), (0, 1), (1, 0), (2, 3), (3, 2), (3, 3)]:
            office = Office()
            office.read("one", f"fen\nallow {one}")
            office.read("two", f"fen\nallow {two}")
            office.join("one", "two", "new")
            self.assertEqual(office.view("new").deeds(), [("allow", max(one, two))] if max(one, two) else [])

    def test_refused_in_this_order(self):
        office = some_office()
        office.deed("three", ("mark", "a"))
        office.deed("three", ("settle", "a"))
        for one, other in [("four", "one"), ("one", "four"), ("four", "four"), ("four", "five"), ("A", "one")]:
            self.check_refused(errors.NoFen, "join", one, other, "A", office=office)
            self.check_refused(errors.NoFen, "join", one, other, "one", office=office)
            self.check_refused(errors.NoFen, "join", one, other, "new", office=office)
        for new in ("A", "one", "three", "new", ""):
            self.check_refused(errors.Same, "join", "one", "one", new, office=office)
            self.check_refused(errors.Same, "join", "three", "three", new, office=office)
        for name in BAD_NAMES:
            self.check_refused(errors.BadName, "join", "one", "two", name, office=office)
            self.check_refused(errors.BadName, "join", "one", "three", name, office=office)
        for new in ("one", "two", "three"):
            self.check_refused(errors.Known, "join", "one", "two", new, office=office)
            self.check_refused(errors.Known, "join", "three", "one", new, office=office)
        self.check_refused(errors.Settled, "join", "one", "three", "new", office=office)
        self.check_refused(errors.Settled, "join", "three", "one", "new", office=office)
        office.back("three")
        self.assertIsNone(office.join("three", "one", "new"))

    def office_of(self, one, two):
        office = Office()
        office.read("one", paged(one))
        office.read("two", paged(two))
        return office

    def test_twelve_marks(self):
        marks = [("mark", "m" + letter) for letter in "abcdefghijklmno"]
        office = self.office_of(marks[:8], marks[4:12])
        office.join("one", "two", "new")
        self.assertEqual(office.view("new").deeds(), marks[:12])
        office = self.office_of(marks[:8], marks[4:13])
        self.check_refused(errors.Full, "join", "one", "two", "new", office=office)
        self.check_refused(errors.Full, "join", "two", "one", "new", office=office)

    def test_ten_hands(self):
        hands = [("hand", "m" + letter) for letter in "abcdefghijklmno"]
        office = self.office_of(hands[:5], hands[5:10])
        office.join("one", "two", "new")
        self.assertEqual(office.view("new").deeds(), hands[:10])
        office = self.office_of(hands[:6], hands[2:11])
        self.check_refused(errors.Full, "join", "one", "two", "new", office=office)

    def test_forty_runs(self):
        start = [("mark", "a"), ("mark", "b"), ("hand", "h")]
        runs = [("run", "a", "b", rise, "h") for rise in range(25)]
        struck = [("strike", number) for number in range(1, 6)]
        office = self.office_of(start + runs + struck, start + runs + struck)
        office.join("one", "two", "new")
        self.assertEqual([run[5] for run in office.view("new").runs()], list(range(5, 25)) * 2)
        self.assertEqual([run[0] for run in office.view("new").runs()], list(range(1, 41)))
        office = self.office_of(start + runs + struck, start + runs + struck[1:] + [("aside", "h")])
        self.check_refused(errors.Full, "join", "one", "two", "new", office=office)

    def test_settled_goes_ahead_of_full(self):
        marks = [("mark", "m" + letter) for letter in "abcdefghijklmno"]
        office = self.office_of(marks[:8], marks[8:14] + [("settle", "mi")])
        self.check_refused(errors.Settled, "join", "one", "two", "new", office=office)
        self.check_refused(errors.Settled, "join", "two", "one", "new", office=office)
        office.back("two")
        self.check_refused(errors.Full, "join", "one", "two", "new", office=office)

    def plain_join(self, first, second):
        """The deeds that point 25 tells, or the class that refuses."""
        books = [plain_book(first), plain_book(second)]
        if any(turn > 1 for book in books for name, turn in book["stands"]):
            return errors.Settled
        marks = list(dict.fromkeys(name for book in books for name, turn in book["stands"]))
        hands = list(dict.fromkeys(name for book in books for name in book["hands"]))
        runs = [run for book in books for run in book["runs"].values()]
        if len(marks) > 12 or len(hands) > 10 or len(runs) > 40:
            return errors.Full
        deeds = [("mark", name) for name in marks] + [("hand", name) for name in hands]
        deeds += [("run", one, other, rise, hand) for one, turn, other, end, rise, hand in runs]
        deeds += [("aside", name) for name in hands if name in books[0]["aside"] | books[1]["aside"]]
        many = max(book["allowed"] for book in books)
        return deeds + [("allow", many)] * (many > 0)

    def test_any_two(self):
        source = random.Random(25)
        kinds = []
        for turn in range(150):
            decks = [drawn_deeds(source, source.choice((5, 15, 30, 60))) for side in range(2)]
            if turn % 3:
                decks = [[row for row in deeds if row[0] != "settle"] for deeds in decks]
            office = self.office_of(*decks)
            wanted = self.plain_join(*decks)
            answer = refused(office.join, "one", "two", "new")
            if isinstance(wanted, list):
                self.assertIsNone(answer)
                self.assertEqual(office.view("new").deeds(), wanted)
                kinds.append(None)
            else:
                self.assertIs(answer, wanted)
                kinds.append(wanted)
        self.assertEqual(set(kinds), {None, errors.Settled, errors.Full})
        self.assertGreater(kinds.count(None), 20)


if __name__ == "__main__":
    unittest.main()
