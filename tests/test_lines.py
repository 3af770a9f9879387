import itertools
import random
import re
import unittest

from fenlevel import errors
from fenlevel.office import Office
from tests.helpers import all_asked, drawn_deed, drawn_deeds, plain_book, plain_refusal, refused, to_do_again

FORMS = ["open NAME", "copy NAME OTHER", "close NAME", "join NAME OTHER NEW", "names", "in NAME mark oak",
         "in NAME hand kim", "in NAME run oak barn -5 kim", "in NAME strike 1", "in NAME mend 1 2",
         "in NAME settle oak", "in NAME aside kim", "in NAME heed kim", "in NAME allow 1", "back NAME", "again NAME",
         "marks NAME", "hands NAME", "asides NAME", "runs NAME", "least NAME", "height NAME MARK MARK",
         "sank NAME MARK", "false NAME", "groups NAME", "parting NAME MARK MARK"]
LENGTHS = {"open": 2, "copy": 3, "close": 2, "join": 4, "names": 1, "back": 2, "again": 2, "marks": 2, "hands": 2,
           "asides": 2, "runs": 2, "least": 2, "height": 4, "sank": 3, "false": 2, "groups": 2, "parting": 4}


def office_behind(*lines):
    office = Office()
    for line in lines:
        office.say(line)
    return office


def some_office():
    return office_behind("open fen", "in fen mark oak", "in fen mark barn", "in fen mark pole", "in fen hand zed",
                         "in fen hand kim", "in fen hand ann", "in fen run oak barn 5 zed",
                         "in fen run barn oak -5 kim", "in fen run oak barn 6 ann", "in fen run barn pole 0 zed",
                         "open other", "in fen settle pole", "back fen", "copy fen twin")


def all_of(office):
    """All that can be asked of an office, with what can be done again."""
    return [(name, office.page(name), to_do_again(office.view(name))) for name in office.names()]


def written(rows, word):
    """Rows of names as an answer has them, a row of none as this word."""
    return "; ".join(" ".join(row) or word for row in rows) or "none"


def plain_answer(fen, line):
    """The answer to a line that only asks of a fen, by what its methods tell."""
    word, name, *marks = line.split(" ")
    answer = refused(getattr(fen, "false_sets" if word == "false" else word), *marks)
    if isinstance(answer, type):
        return f"no {answer.__name__}"
    if word == "least":
        return str(answer)
    if word == "parting":
        return "safe" if answer is None else " ".join(answer) or "nobody"
    if word in ("height", "sank"):
        return " ".join(map(str, answer))
    if word in ("runs", "groups", "false"):
        return written([list(map(str, row)) for row in answer or []], "nobody")
    return " ".join(answer) or "none"


class Saying(unittest.TestCase):
    def check(self, office, *pairs):
        for line, answer in pairs:
            with self.subTest(line=line):
                self.assertEqual(office.say(line), answer)

    def check_still(self, office, line, answer):
        """A line is answered so, and nothing has changed behind it."""
        ahead = all_of(office)
        with self.subTest(line=line):
            self.assertEqual(office.say(line), answer)
            self.assertEqual(all_of(office), ahead)


class Answers(Saying):
    def test_fens(self):
        self.check(Office(), ("names", "none"), ("open b", "opened"), ("open a", "opened"), ("names", "b a"),
                   ("copy b abcdefgh", "copied"), ("names", "b a abcdefgh"), ("close b", "closed"),
                   ("names", "a abcdefgh"), ("open b", "opened"), ("join a b none", "joined"),
                   ("names", "a abcdefgh b none"))

    def test_deeds(self):
        self.check(Office(), ("open f", "opened"), ("in f mark oak", "done"), ("in f mark barn", "done"),
                   ("in f hand kim", "done"), ("in f run oak barn -5 kim", "run 1"),
                   ("in f run oak barn -5 kim", "run 2"), ("in f strike 1", "done"), ("in f mend 2 7", "done"),
                   ("in f run oak barn 0 kim", "run 3"), ("in f settle oak", "done"), ("in f aside kim", "done"),
                   ("in f heed kim", "done"), ("in f allow 3", "done"), ("back f", "back"), ("again f", "again"),
                   ("runs f", "2 oak 1 barn 1 7 kim; 3 oak 1 barn 1 0 kim"))

    def test_deeds_as_they_are_told(self):
        office = office_behind("open f", "in f mark oak", "in f mark barn", "in f hand kim", "in f run barn oak -9 kim")
        self.assertEqual(office.page("f"), "fen\nmark oak\nmark barn\nhand kim\nrun barn oak -9 kim")
        self.check(office, ("back f", "back"), ("runs f", "none"), ("again f", "again"),
                   ("runs f", "1 barn 1 oak 1 -9 kim"))

    def test_names(self):
        office = some_office()
        self.check(office, ("marks fen", "oak barn pole"), ("hands fen", "zed kim ann"), ("asides fen", "none"),
                   ("in fen aside kim", "done"), ("in fen aside zed", "done"), ("asides fen", "zed kim"))

    def test_runs(self):
        office = some_office()
        self.check(office, ("again fen", "again"), ("in fen run pole oak -1000000000 kim", "run 5"),
                   ("in fen strike 2", "done"), ("runs fen", "1 oak 1 barn 1 5 zed; 3 oak 1 barn 1 6 ann; "
                                                             "4 barn 1 pole 1 0 zed; 5 pole 2 oak 1 -1000000000 kim"))

    def test_heights(self):
        office = some_office()
        self.check(office, ("least fen", "1"), ("height fen oak barn", "none"), ("in fen allow 1", "done"),
                   ("height fen oak barn", "sure 5"), ("height fen barn oak", "sure -5"),
                   ("height fen oak oak", "sure 0"), ("in fen allow 2", "done"), ("height fen oak pole", "open"))

    def test_sank(self):
        office = some_office()
        self.check(office, ("sank fen pole", "no Steady"), ("in fen settle pole", "done"), ("sank fen pole", "none"),
                   ("in fen allow 1", "done"), ("sank fen pole", "open"), ("in fen run oak pole 1 zed", "run 5"),
                   ("sank fen pole", "sure -4"))

    def test_false_sets(self):
        office = some_office()
        self.check(office, ("false other", "nobody"), ("false fen", "none"), ("in fen allow 1", "done"),
                   ("false fen", "ann"), ("in fen allow 2", "done"), ("false fen", "ann; zed kim; zed ann; kim ann"),
                   ("in fen strike 3", "done"), ("false fen", "nobody; zed; kim; zed kim"))

    def test_groups(self):
        office = some_office()
        self.check(office, ("groups other", "none"), ("groups fen", "none"), ("in fen allow 1", "done"),
                   ("groups fen", "oak barn pole"), ("in fen allow 2", "done"), ("groups fen", "oak; barn; pole"),
                   ("in fen aside ann", "done"), ("in fen allow 1", "done"), ("groups fen", "oak barn; pole"))

    def test_parting(self):
        office = some_office()
        self.check(office, ("parting fen oak barn", "safe"), ("in fen mark far", "done"),
                   ("parting fen oak far", "nobody"), ("in fen allow 1", "done"), ("parting fen oak barn", "safe"),
                   ("parting fen oak pole", "zed"), ("in fen allow 2", "done"),
                   ("parting fen oak barn", "zed kim ann"), ("parting fen oak oak", "safe"))

    def test_lists_of_nothing(self):
        self.check(Office(), ("names", "none"))
        words = ("marks", "hands", "asides", "runs", "groups")
        self.check(some_office(), *[(f"{word} other", "none") for word in words], ("least other", "0"),
                   ("false other", "nobody"))

    def test_what_asks_changes_nothing(self):
        office = some_office()
        ahead = all_of(office)
        for line in ("names", "marks fen", "hands fen", "asides fen", "runs fen", "least fen", "height fen oak barn",
                     "sank fen oak", "false fen", "groups fen", "parting fen oak barn"):
            answer = office.say(line)
            self.assertEqual(all_of(office), ahead)
            self.assertEqual(office.say(line), answer)

    def test_any_fens(self):
        source = random.Random(26)
        for turn in range(60):
            office = Office()
            office.open_one("f")
            for row in drawn_deeds(source, source.randrange(50)):
                office.deed("f", row)
            fen = office.view("f")
            marks = fen.marks()[:4] + ["nomark"]
            lines = [f"{word} f" for word in ("marks", "hands", "asides", "runs", "least", "false", "groups")]
            lines += [f"sank f {mark}" for mark in marks]
            lines += [f"{word} f {one} {other}" for word in ("height", "parting")
                      for one, other in itertools.product(marks, repeat=2)]
            for line in lines:
                self.check_still(office, line, plain_answer(fen, line))


class Refusals(Saying):
    def test_fens(self):
        for line, answer in [("open fen", "no Known"), ("open Fen", "no BadName"), ("open abcdefghi", "no BadName"),
                             ("open 1", "no BadName"), ("open -", "no BadName"), ("copy none new", "no NoFen"),
                             ("copy none fen", "no NoFen"), ("copy fen N", "no BadName"), ("copy fen fen", "no Known"),
                             ("close none", "no NoFen"), ("close FEN", "no NoFen"), ("join none fen new", "no NoFen"),
                             ("join fen none new", "no NoFen"), ("join fen fen NEW", "no Same"),
                             ("join fen other NEW", "no BadName"), ("join fen other twin", "no Known")]:
            self.check_still(some_office(), line, answer)

    def test_settled_and_full(self):
        office = some_office()
        office.say("again twin")
        self.check_still(office, "join fen twin new", "no Settled")
        office = some_office()
        for letter in "abcdefghij":
            office.say(f"in other mark {letter}")
        self.check_still(office, "join fen other new", "no Full")

    def test_no_fen(self):
        for form in FORMS:
            if "NAME" in form and not form.startswith("open"):
                for name in ("none", "N", "~", "12"):
                    line = form.replace("NAME", name).replace("OTHER", "fen").replace("MARK", "oak")
                    self.check_still(some_office(), line, "no NoFen")

    def test_deeds(self):
        office = some_office()
        office.say("in fen aside ann")
        for line, answer in [("mark oak", "no Taken"), ("hand kim", "no Taken"), ("run oak far 1 kim", "no NoMark"),
                             ("run oak oak 1 kim", "no Same"), ("run oak barn 1 joe", "no NoHand"),
                             ("run oak barn 1000000001 kim", "no BadRise"),
                             ("run oak barn -9999999999 kim", "no BadRise"), ("strike 0", "no NoRun"),
                             ("strike 9999999999", "no NoRun"), ("mend 5 1", "no NoRun"),
                             ("mend 1 1000000001", "no BadRise"), ("settle far", "no NoMark"),
                             ("aside joe", "no NoHand"), ("aside ann", "no Aside"), ("heed joe", "no NoHand"),
                             ("heed kim", "no NotAside"), ("allow 4", "no BadNumber"),
                             ("allow 9999999999", "no BadNumber")]:
            self.check_still(office, f"in fen {line}", answer)
        for letter in "abcdefghi":
            office.say(f"in fen mark {letter}")
        for line in ("mark j", "settle oak"):
            self.check_still(office, f"in fen {line}", "no Full")

    def test_back_and_again(self):
        office = some_office()
        self.check_still(office, "back other", "no NothingLeft")
        self.check_still(office, "again other", "no NothingLeft")
        self.check_still(office, "in fen allow 4", "no BadNumber")
        self.check(office, ("again fen", "again"), ("again fen", "no NothingLeft"))

    def test_marks(self):
        for word in ("height", "parting"):
            for one, other in [("far", "oak"), ("oak", "far"), ("OAK", "far"), ("1", "oak"), ("oak", "-"),
                               ("kim", "oak")]:
                self.check_still(some_office(), f"{word} fen {one} {other}", "no NoMark")
        self.check_still(some_office(), "sank fen far", "no NoMark")
        self.check_still(some_office(), "sank fen O~", "no NoMark")
        self.check_still(some_office(), "sank fen oak", "no Steady")

    def test_each_refusal_of_deeds_by_its_class(self):
        source = random.Random(27)
        seen = set()
        for turn in range(20):
            office, deeds = office_behind("open f"), []
            for step in range(150):
                row = drawn_deed(source, plain_book(deeds))
                text = " ".join(map(str, row))
                reason = plain_refusal(plain_book(deeds), row)
                if not re.fullmatch("(mark|hand|settle|aside|heed) [a-z]{1,8}|run [a-z]{1,8} [a-z]{1,8} -?[0-9]+ "
                                    "[a-z]{1,8}|(strike|allow) [0-9]+|mend [0-9]+ -?[0-9]+", text):
                    self.check_still(office, f"in f {text}", "no line")
                    seen.add("line")
                elif reason is not None:
                    self.check_still(office, f"in f {text}", f"no {reason}")
                    seen.add(reason)
                else:
                    deeds.append(row)
                    number = plain_book(deeds)["entered"]
                    self.check(office, (f"in f {text}", f"run {number}" if row[0] == "run" else "done"))
            self.assertEqual(office.view("f").deeds(), deeds)
        self.assertEqual(seen, {"line", "Taken", "Full", "NoMark", "NoHand", "Same", "BadRise", "NoRun", "Aside",
                                "NotAside", "BadNumber"})


class NoLine(Saying):
    def test_blanks(self):
        office = some_office()
        for form in FORMS:
            line = form.replace("NAME", "fen").replace("OTHER", "other").replace("NEW", "new").replace("MARK", "oak")
            self.check_still(office, " " + line, "no line")
            self.check_still(office, line + " ", "no line")
            for place in range(1, len(line.split(" "))):
                words = line.split(" ")
                self.check_still(office, " ".join(words[:place] + [""] + words[place:]), "no line")
        for line in ("", " ", "  ", "   "):
            self.check_still(office, line, "no line")
            self.check_still(Office(), line, "no line")

    def test_a_word_more_or_fewer(self):
        office = some_office()
        for form in FORMS:
            line = form.replace("NAME", "fen").replace("OTHER", "other").replace("NEW", "new").replace("MARK", "oak")
            self.check_still(office, line + " oak", "no line")
            self.check_still(office, line + " 1", "no line")
            if " " in line:
                self.check_still(office, line.rpartition(" ")[0], "no line")
        for word in ("in", "in fen", "in fen mark", "open", "join fen other", "height fen oak", "names fen"):
            self.check_still(office, word, "no line")

    def test_unknown_first_words(self):
        office = some_office()
        for line in ("Open fen", "OPEN new", "opens new", "read new fen", "page fen", "view fen", "stands fen",
                     "counting fen", "allowed fen", "deeds fen", "paper fen oak barn", "readings fen oak barn",
                     "foe fen oak barn", "mark fen", "fen mark far", "deed fen mark far", "none", "in", "twin fen",
                     "false_sets fen", "say names", "open_one new", "back", "again", "1", "~"):
            self.check_still(office, line, "no line")

    def test_deeds_that_are_not_so_written(self):
        office = some_office()
        for deed in ("mark Far", "mark abcdefghi", "mark 1", "hand K", "run oak barn +1 kim", "run oak barn 01 kim",
                     "run oak barn -0 kim", "run oak barn 12345678901 kim", "run oak barn kim", "run oak Barn 1 kim",
                     "run oak barn 1 Kim", "strike -1", "strike 01", "strike one", "strike 12345678901", "mend 1 -0",
                     "mend -1 1", "mend 1", "settle Oak", "aside K", "heed 1", "allow -1", "allow 00", "marks oak",
                     "names", "back", "fen", "Mark far"):
            self.check_still(office, f"in fen {deed}", "no line")
            # That it is of none of the forms goes ahead of the name.
            self.check_still(office, f"in none {deed}", "no line")

    def test_any_words(self):
        source = random.Random(28)
        words = list(LENGTHS) + ["in", "fen", "other", "oak", "mark", "far", "allow", "1", "none", "Open", ""]
        seen = set()
        for turn in range(6000):
            line = " ".join(source.choice(words[:18] if place == 0 and turn % 4 else words)
                            for place in range(source.randrange(1, 6)))
            office = some_office() if turn % 20 == 0 else office
            first, *rest = line.split(" ")
            form = (LENGTHS.get(first) == len(rest) + 1 or
                    first == "in" and re.fullmatch("(mark [a-z]{1,8}|allow 1)", " ".join(rest[1:]))) and "" not in rest
            ahead = all_of(office)
            answer = office.say(line)
            with self.subTest(line=line):
                self.assertEqual(answer != "no line", bool(form))
                if answer.startswith("no "):
                    self.assertEqual(all_of(office), ahead)
                    self.assertTrue(answer == "no line" or issubclass(getattr(errors, answer[3:]), errors.FenError))
            seen.add(answer.partition(" ")[0])
        self.assertLessEqual({"no", "opened", "copied", "closed", "back", "again", "done", "none"}, seen)

    def test_all_is_as_it_was(self):
        office = some_office()
        ahead = [all_asked(office.view(name)) for name in office.names()]
        for line in ("in fen mark oak", "in fen mark OAK", "again other", "join fen twin fen", "open fen", "x"):
            self.assertEqual(office.say(line)[:3], "no ")
        self.assertEqual([all_asked(office.view(name)) for name in office.names()], ahead)


if __name__ == "__main__":
    unittest.main()
