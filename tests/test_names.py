import itertools
import re
import unittest

from fenlevel.names import is_name, is_number, is_rise

# Texts to try each way: signs of all sorts, in every short row of them.
SIGNS = ["", "a", "z", "Z", "0", "1", "9", "-", "+", " ", "\n", "\t", "_", ".", "`", "{", "/", ":", "\u00e9", "\u0663",
         "\u00b2"]
TEXTS = ["".join(signs) for signs in itertools.product(SIGNS, repeat=3)]


class Names(unittest.TestCase):
    def test_names(self):
        for text in ("a", "z", "fen", "abcdefgh", "zzzzzzzz", "none", "open"):
            self.assertIs(is_name(text), True)
        for text in ("", "abcdefghi", "a" * 1000, "A", "aB", "a b", " a", "a ", "a\n", "\na", "a1", "a_b", "a-b",
                     "\u00e9", "\u00aa", "`", "{"):
            self.assertIs(is_name(text), False)

    def test_numbers(self):
        for text in ("0", "1", "9", "10", "100", "1234567890", "9999999999"):
            self.assertIs(is_number(text), True)
        for text in ("", "00", "01", "007", "0000000000", "12345678901", "-1", "-0", "+1", "1 ", " 1", "1\n", "1_0",
                     "1.0", "a", "1a", "\u0663", "\u00b2", "/", ":"):
            self.assertIs(is_number(text), False)

    def test_rises(self):
        for text in ("0", "5", "-5", "-10", "9999999999", "-9999999999", "-1000000000", "1000000000"):
            self.assertIs(is_rise(text), True)
        for text in ("", "-", "-0", "--1", "+1", "+0", "- 1", "-01", "01", "-00", "10000000000", "-10000000000", "1-",
                     "-1\n", "-a", "\u22121"):
            self.assertIs(is_rise(text), False)

    def test_every_short_text(self):
        for text in TEXTS:
            self.assertIs(is_name(text), bool(re.fullmatch("[a-z]{1,8}", text)))
            self.assertIs(is_number(text), bool(re.fullmatch("0|[1-9][0-9]{0,9}", text)))
            self.assertIs(is_rise(text), bool(re.fullmatch("0|-?[1-9][0-9]{0,9}", text)))


if __name__ == "__main__":
    unittest.main()
