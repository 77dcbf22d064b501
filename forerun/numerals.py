"""Worths, and the numerals as which they are written."""

from forerun.errors import NoNumber

FIGURES = "0123456789"

# So many figures has 10 ** 30, the greatest worth.
MOST_FIGURES = 31


def is_worth(thing):
    # Python counts True and False among its whole numbers; here they are none.
    if not isinstance(thing, int) or isinstance(thing, bool):
        return False
    return -(10 ** 30) <= thing <= 10 ** 30


def numeral(worth):
    return str(worth)


def is_figures(text):
    # Written out, for isdigit holds for figures of other scripts too.
    return text != "" and all([sign in FIGURES for sign in text])


def is_numeral(text):
    figures = text[1:] if text.startswith("-") else text
    # The length comes ahead of int, which fails in a way of its own on figures by the thousand.
    if len(figures) > MOST_FIGURES or not is_figures(figures):
        return False
    worth = int(text)
    # Writing the worth again finds noughts ahead and -0.
    return is_worth(worth) and numeral(worth) == text


def worth_in(text):
    if not is_numeral(text):
        raise NoNumber(f"the numeral of no worth: {text!r}")
    return int(text)
