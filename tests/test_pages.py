import itertools
import random
import re
import unittest

from fenlevel.errors import NoDeed, NoPage, NothingLeft
from fenlevel.fen import Fen, fen_of
from fenlevel.pages import deed_of, deed_text, fen_from, page
from tests.helpers import all_asked, drawn_deeds, refused, to_do_again

NAME = "[a-z]{1,8}"
NUMBER = "(?:0|[1-9][0-9]{0,9})"
RISE = "(?:0|-?[1-9][0-9]{0,9})"
ROW = re.compile(f"(?:mark|hand|settle|aside|heed) {NAME}|run {NAME} {NAME} {RISE} {NAME}|(?:strike|allow) {NUMBER}|"
                 f"mend {NUMBER} {RISE}")
WRITTEN = [("mark oak", ("mark", "oak")), ("hand abcdefgh", ("hand", "abcdefgh")),
           ("run oak pole -5 kim", ("run", "oak", "pole", -5, "kim")), ("strike 12", ("strike", 12)),
           ("mend 3 -1000000000", ("mend", 3, -1000000000)), ("settle oak", ("settle", "oak")),
           ("aside kim", ("aside", "kim")), ("heed kim", ("heed", "kim")), ("allow 2", ("allow", 2))]
# So written, though every fen would refuse some of these.
BEYOND = [("run a a 9999999999 h", ("run", "a", "a", 9999999999, "h")), ("mend 0 0", ("mend", 0, 0)),
          ("run a b -9999999999 h", ("run", "a", "b", -9999999999, "h")), ("strike 0", ("strike", 0)),
          ("strike 9999999999", ("strike", 9999999999)), ("allow 9999999999", ("allow", 9999999999)),
          ("allow 4", ("allow", 4)), ("run run run 0 run", ("run", "run", "run", 0, "run")),
          ("mark mark", ("mark", "mark")), ("mark none", ("mark", "none"))]
DEEDS = [("mark", "a"), ("mark", "b"), ("hand", "h"), ("run", "a", "b", -5, "h"), ("mend", 1, 1000000000),
         ("settle", "a"), ("aside", "h"), ("heed", "h"), ("strike", 1), ("allow", 3)]
PAGE = ("fen\nmark a\nmark b\nhand h\nrun a b -5 h\nmend 1 1000000000\nsettle a\naside h\nheed h\nstrike 1\n"
        "allow 3")


class Rows(unittest.TestCase):
    def check_none(self, text):
        with self.subTest(text=text):
            self.assertIs(refused(deed_of, text), NoDeed)

    def test_each_kind_written_and_read_back(self):
        for text, deed in WRITTEN + BEYOND:
            self.assertEqual(deed_text(deed), text)
            self.assertEqual(deed_of(text), deed)
            self.assertIsInstance(deed_of(text), tuple)
            for part, again in zip(deed, deed_of(text), strict=True):
                self.assertIs(type(again), type(part))

    def test_blanks(self):
        for text, deed in WRITTEN:
            self.check_none(" " + text)
            self.check_none(text + " ")
            self.check_none(text.replace(" ", "  ", 1))
            self.check_none(text.replace(" ", "\t", 1))
            self.check_none(text.replace(" ", "", 1))

    def test_row_ends(self):
        for text, deed in WRITTEN:
            self.check_none("\n" + text)
            self.check_none(text + "\n")
            self.check_none(text.replace(" ", "\n", 1))
            self.check_none(text.replace(" ", " \n", 1))
        self.check_none("mark a\nmark b")

    def test_a_word_more_or_fewer(self):
        for text, deed in WRITTEN:
            self.check_none(text.rpartition(" ")[0])
            self.check_none(text + " " + text.rpartition(" ")[2])
            self.check_none(text + " a")
        for text in ("", " ", "mark", "run", "run a b 5", "mend 3", "names", "back", "open a"):
            self.check_none(text)

    def test_the_first_word(self):
        for text in ("marks a", "Mark a", "MARK a", "fen a", "a mark", "deed a", "back a", "mar a"):
            self.check_none(text)

    def test_names(self):
        for name in ("abcdefghi", "A", "aB", "a1", "1", "-a", "a-b", "a_", "~", "\u00e9"):
            for word in ("mark", "hand", "settle", "aside", "heed"):
                self.check_none(f"{word} {name}")
            for names in itertools.combinations_with_replacement([name, "ok"], 3):
                if name in names:
                    self.check_none(f"run {names[0]} {names[1]} 5 {names[2]}")
                    self.check_none(f"run {names[2]} {names[1]} 5 {names[0]}")

    def test_numbers(self):
        for number in ("", "00", "01", "007", "-1", "-0", "+1", "1.0", "1e3", "a", "12345678901", "1_0", "0x1", "--1",
                       "-", "\u0663", "\u00b2"):
            for word in ("strike", "allow"):
                self.check_none(f"{word} {number}")
            self.check_none(f"mend {number} 5")
        for number in ("0", "1234567890"):
            self.assertEqual(deed_of(f"strike {number}"), ("strike", int(number)))
            self.assertEqual(deed_of(f"mend {number} 1"), ("mend", int(number), 1))

    def test_rises(self):
        for rise in ("", "00", "01", "-01", "-0", "-00", "+1", "+0", "--1", "-", "1-", "12345678901", "-12345678901",
                     "a", "1.0", "\u22121"):
            self.check_none(f"run a b {rise} h")
            self.check_none(f"mend 1 {rise}")
        for rise in ("0", "1234567890", "-1234567890", "-1"):
            self.assertEqual(deed_of(f"run a b {rise} h"), ("run", "a", "b", int(rise), "h"))
            self.assertEqual(deed_of(f"mend 1 {rise}"), ("mend", 1, int(rise)))

    def test_any_texts(self):
        source = random.Random(23)
        words = ["mark", "hand", "run", "strike", "mend", "settle", "aside", "heed", "allow", "a", "oak", "abcdefghi",
                 "A", "0", "5", "-5", "-0", "05", "+5", "", "12345678901", "9999999999"]
        found = 0
        for turn in range(40000):
            text = " ".join(source.choice(words[:9] if place == 0 and turn % 2 else words[9:])
                            for place in range(source.choice((2, 2, 2, 3, 5, 5, 1))))
            if ROW.fullmatch(text):
                found += 1
                self.assertEqual(deed_text(deed_of(text)), text)
            else:
                self.assertIs(refused(deed_of, text), NoDeed)
        self.assertGreater(found, 500)


class Pages(unittest.TestCase):
    def check_wrong(self, text, row):
        with self.subTest(text=text):
            with self.assertRaises(NoPage) as caught:
                fen_from(text)
            self.assertEqual(caught.exception.row, row)

    def test_written(self):
        self.assertEqual(page(fen_of(DEEDS)), PAGE)
        self.assertEqual(page(Fen()), "fen")

    def test_only_what_is_kept_is_written(self):
        fen = fen_of(DEEDS)
        fen.back()
        fen.back()
        self.assertEqual(page(fen), PAGE.rpartition("\nstrike")[0])
        self.assertEqual(to_do_again(fen), DEEDS[-2:])

    def test_read_with_every_deed_to_be_taken_back(self):
        fen = fen_from(PAGE)
        self.assertIsInstance(fen, Fen)
        self.assertEqual(all_asked(fen), all_asked(fen_of(DEEDS)))
        self.assertIs(refused(fen.again), NothingLeft)
        for many in range(len(DEEDS), 0, -1):
            self.assertEqual(fen.deeds(), DEEDS[:many])
            fen.back()
        self.assertEqual(all_asked(fen), all_asked(Fen()))
        self.assertEqual(all_asked(fen_from("fen")), all_asked(Fen()))

    def test_written_and_read_back(self):
        source = random.Random(24)
        for turn in range(30):
            fen = fen_of(drawn_deeds(source, source.randrange(60)))
            text = page(fen)
            self.assertEqual(fen_from(text).deeds(), fen.deeds())
            self.assertEqual(page(fen_from(text)), text)
            self.assertEqual(text.split("\n")[1:], [deed_text(deed) for deed in fen.deeds()])

    def test_the_first_row(self):
        for text in ("", "\n", "\nfen", "Fen", "fen ", " fen", "fens", "mark a", "mark a\nfen", " \nmark a", "fen\r",
                     "\n\n\n", "fen mark a"):
            self.check_wrong(text, 0)

    def test_empty_rows_and_a_row_end_at_the_end(self):
        self.check_wrong("fen\n", 1)
        self.check_wrong("fen\n\nmark a", 1)
        self.check_wrong("fen\nmark a\n", 2)
        self.check_wrong("fen\nmark a\n\n", 2)
        self.check_wrong(PAGE + "\n", 11)

    def test_rows_that_are_not_so_written(self):
        self.check_wrong("fen\nfen", 1)
        self.check_wrong("fen\nmark a\nmark  b\nmark c", 2)
        self.check_wrong("fen\nmark a\nmark b \nmark C", 2)
        self.check_wrong("fen\nmark a\r\nmark b", 1)
        self.check_wrong(PAGE + "\nallow 01", 11)

    def test_rows_whose_deeds_are_refused(self):
        self.check_wrong("fen\nmark a\nmark b\nmark a", 3)
        self.check_wrong("fen\nallow 4", 1)
        self.check_wrong("fen\nstrike 1\nmark A", 1)
        self.check_wrong("fen\nmark A\nstrike 1", 1)
        self.check_wrong("fen\nmark a\nmark b\nrun a b 5 h\nhand h", 3)
        self.check_wrong(PAGE + "\nmend 1 3", 11)
        self.check_wrong(PAGE.replace("1000000000", "1000000001"), 5)
        self.check_wrong("fen" + "".join(f"\nmark {letter}" for letter in "abcdefghijklm"), 13)

    def test_every_row_may_be_the_wrong_one(self):
        rows = PAGE.split("\n")
        for place in range(1, len(rows) + 1):
            self.check_wrong("\n".join(rows[:place] + ["mark"] + rows[place:]), place)
            self.check_wrong("\n".join(rows[:place] + ["allow 4"] + rows[place:] + [""]), place)


if __name__ == "__main__":
    unittest.main()
