"""How names and numbers are written."""

LETTERS = "abcdefghijklmnopqrstuvwxyz"
FIGURES = "0123456789"
LONGEST_NAME = 8
LONGEST_NUMBER = 10


def is_made_of(text, signs, longest):
    """True where a text has one sign to so many, all of them among these."""
    return 1 <= len(text) <= longest and all([sign in signs for sign in text])


def is_name(text):
    """True where a text may be the name of a mark, a hand or a fen."""
    return is_made_of(text, LETTERS, LONGEST_NAME)


def is_number(text):
    """True where a text is written as a number from nought on."""
    return is_made_of(text, FIGURES, LONGEST_NUMBER) and (text == "0" or not text.startswith("0"))


def is_rise(text):
    """True where a text is written as a rise, which may lie below nought."""
    if text.startswith("-"):
        # Nought isn't below nought, so that it is written in one way only.
        return text != "-0" and is_number(text[1:])
    return is_number(text)
