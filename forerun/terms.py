"""Names; terms, read, written and reckoned."""

from forerun.errors import Great, NoTerm, Nought
from forerun.numerals import is_numeral, is_worth, numeral, worth_in

LETTERS = "abcdefghijklmnopqrstuvwxyz"
MOST_LETTERS = 6

# The words that join two terms to one, and those that rows are made with: together the sixteen that are no names.
JOINING = ("plus", "minus", "times", "over", "rest", "under", "same")
ROW_WORDS = ("take", "give", "let", "say", "off", "if", "else", "end", "as")

MOST_WORDS = 60


def is_name(text):
    if text == "" or len(text) > MOST_LETTERS:
        return False
    if text in JOINING or text in ROW_WORDS:
        return False
    return all([sign in LETTERS for sign in text])


def part_in(word):
    if is_name(word):
        return word
    if is_numeral(word):
        return worth_in(word)
    raise NoTerm(f"neither a numeral nor a name nor a word of terms: {word!r}")


def behind_term(words, at):
    # One term is due at first. A joining word stands for one and makes two due; any other word is one.
    due = 1
    place = at
    while due > 0:
        if place >= len(words):
            raise NoTerm("the words end ahead of the term's end")
        if place - at == MOST_WORDS:
            raise NoTerm("a term of more than sixty words")
        due = due + 1 if words[place] in JOINING else due - 1
        place += 1
    return place


def term_from(words, at):
    behind = behind_term(words, at)
    # Walked from its end, a term has both parts of a joining word ready when the word comes.
    parts = []
    for word in reversed(words[at:behind]):
        if word in JOINING:
            first = parts.pop()
            second = parts.pop()
            parts.append(first + second + (word,))
        else:
            parts.append((part_in(word),))
    return (parts.pop(), behind)


def words_of(term):
    parts = []
    for part in term:
        if part in JOINING:
            second = parts.pop()
            first = parts.pop()
            parts.append([part] + first + second)
        else:
            parts.append([part if isinstance(part, str) else numeral(part)])
    return parts.pop()


def divided(word, first, second):
    if second == 0:
        raise Nought(f"{word} by 0")
    return first // second if word == "over" else first % second


def come_to(word, first, second):
    if word == "plus":
        return first + second
    if word == "minus":
        return first - second
    if word == "times":
        return first * second
    # A comparison by itself would be a truth, which is no whole number.
    if word == "under":
        return 1 if first < second else 0
    if word == "same":
        return 1 if first == second else 0
    return divided(word, first, second)


def joined(word, first, second):
    worth = come_to(word, first, second)
    if not is_worth(worth):
        raise Great(f"{word} comes to no worth")
    return worth


def reckoned(term, slots):
    # A term is told with its parts ahead of their word, so walking it is the order in which refusals are due.
    worths = []
    for part in term:
        if part in JOINING:
            second = worths.pop()
            first = worths.pop()
            worths.append(joined(part, first, second))
        else:
            worths.append(slots.get(part, 0) if isinstance(part, str) else part)
    return worths.pop()
