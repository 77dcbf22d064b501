"""Dealings read: a text of rows becomes a list of rows."""

from forerun.errors import NoDealing, NoTerm
from forerun.terms import is_name, term_from

MOST_ROWS = 40
MOST_WORDS = 60
MOST_BLOCKS = 5


class RowWords:
    # The words of one row, drawn from the left to the right; what is drawn but does not stand there makes the row bad.

    def __init__(self, words, number):
        self.words = words
        self.number = number
        self.at = 0

    def draw_word(self):
        if self.at == len(self.words):
            raise NoDealing(self.number)
        word = self.words[self.at]
        self.at += 1
        return word

    def draw_as(self):
        if self.draw_word() != "as":
            raise NoDealing(self.number)

    def draw_name(self):
        word = self.draw_word()
        if not is_name(word):
            raise NoDealing(self.number)
        return word

    def draw_term(self):
        try:
            found = term_from(self.words, self.at)
        except NoTerm:
            raise NoDealing(self.number) from None
        self.at = found[1]
        return found[0]

    def draw_end(self):
        if self.at < len(self.words):
            raise NoDealing(self.number)


def take_drawn(words):
    shelf = words.draw_name()
    place = words.draw_term()
    words.draw_as()
    return ("take", shelf, place, words.draw_name())


def row_drawn(words):
    first = words.draw_word()
    if first == "take":
        return take_drawn(words)
    if first == "give":
        return ("give", words.draw_name(), words.draw_term(), words.draw_term())
    if first == "let":
        return ("let", words.draw_name(), words.draw_term())
    if first in ("say", "off"):
        return (first, words.draw_term())
    if first == "if":
        return ("if", words.draw_term(), [], [])
    if first in ("else", "end"):
        return (first,)
    raise NoDealing(words.number)


def row_in(text, number):
    words = text.split(" ")
    if number >= MOST_ROWS or len(words) > MOST_WORDS:
        raise NoDealing(number)
    drawn = RowWords(words, number)
    row = row_drawn(drawn)
    drawn.draw_end()
    return row


class Reading:
    # The rows read so far, and the blocks that are open: their if rows, the innermost last.

    def __init__(self):
        self.rows = []
        self.blocks = []
        # Whether the else of each open block has come: an empty list of other rows would not tell it.
        self.turned = []

    def reads(self, row, number):
        if row[0] == "else":
            self.turns(number)
        elif row[0] == "end":
            self.shuts(number)
        elif row[0] == "if":
            self.begins(row, number)
        else:
            self.innermost().append(row)

    def innermost(self):
        if self.blocks == []:
            return self.rows
        return self.blocks[-1][3] if self.turned[-1] else self.blocks[-1][2]

    def begins(self, row, number):
        if len(self.blocks) == MOST_BLOCKS:
            raise NoDealing(number)
        self.innermost().append(row)
        self.blocks.append(row)
        self.turned.append(False)

    def turns(self, number):
        if self.blocks == [] or self.turned[-1]:
            raise NoDealing(number)
        self.turned[-1] = True

    def shuts(self, number):
        if self.blocks == []:
            raise NoDealing(number)
        self.blocks.pop()
        self.turned.pop()


def read(text):
    # Splitting would make one row of the text without signs, and it has none.
    texts = text.split("\n") if text != "" else []
    reading = Reading()
    for number, one in enumerate(texts):
        reading.reads(row_in(one, number), number)
    if reading.blocks != []:
        raise NoDealing(len(texts))
    return reading.rows
