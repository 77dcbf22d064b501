"""Lines of a log: written of settled dealings and of tables, and read again."""

from forerun.errors import NoLine, NoNumber
from forerun.numerals import numeral, worth_in
from forerun.terms import is_name

# A prime, and more than any factor and any two signs differ by: so no sign can be exchanged without another check.
CHECK_BY = 1009
MOST_FACTOR = 1008
CHECK_FIGURES = 4

WHYS = ("told", "great", "nought")


def check_of(body):
    total = sum([ord(sign) * (1 + at % MOST_FACTOR) for at, sign in enumerate(body)])
    return str(total % CHECK_BY).zfill(CHECK_FIGURES)


def line_of(words):
    body = " ".join(words)
    return body + " " + check_of(body)


def outcome_words(outcome):
    if outcome[0] == "off":
        return ["off", outcome[1]]
    return ["done"] + [numeral(worth) for worth in outcome[1]]


def row_words(rows):
    words = []
    for place, worth in rows:
        words.extend([place[0], numeral(place[1]), numeral(worth)])
    return words


def deal_line(rank, paper):
    return line_of(["deal", numeral(rank)] + outcome_words(paper[0]) + [";"] + row_words(paper[2]))


def mark_line(rank, table):
    return line_of(["mark", numeral(rank), ";"] + row_words(table))


def number_in(word):
    try:
        return worth_in(word)
    except NoNumber as refusal:
        raise NoLine(f"the numeral of no worth: {word!r}") from refusal


def rank_in(word):
    rank = number_in(word)
    if rank < 0 or rank > 10 ** 29:
        raise NoLine(f"no rank: {word!r}")
    return rank


def shelf_in(word):
    if not is_name(word):
        raise NoLine(f"no name: {word!r}")
    return word


def outcome_in(words):
    if words[:1] == ["done"]:
        return ("done", tuple([number_in(word) for word in words[1:]]))
    if len(words) == 2 and words[0] == "off" and words[1] in WHYS:
        return ("off", words[1])
    raise NoLine(f"no outcome: {words!r}")


def rows_in(words):
    if len(words) % 3 != 0:
        raise NoLine("not three words for each place")
    rows = []
    for at in range(0, len(words), 3):
        place = (shelf_in(words[at]), number_in(words[at + 1]))
        rows.append((place, number_in(words[at + 2])))
    places = [place for place, worth in rows]
    if places != sorted(set(places)):
        raise NoLine("a place twice, or places out of order")
    return rows


def deal_in(words, rows):
    outcome = outcome_in(words[2:])
    if outcome[0] == "off" and rows != []:
        raise NoLine("a dealing that was broken off, with gifts")
    return ("deal", rank_in(words[1]), outcome, rows)


def mark_in(words, rows):
    if len(words) != 2:
        raise NoLine("a mark without one rank")
    if any([worth == 0 for place, worth in rows]):
        raise NoLine("a mark with a worth of 0")
    return ("mark", rank_in(words[1]), rows)


def body_in(text):
    parts = text.rpartition(" ")
    if parts[2] != check_of(parts[0]):
        raise NoLine(f"a line without its check: {text!r}")
    return parts[0]


def line_read(text):
    words = body_in(text).split(" ")
    if ";" not in words:
        raise NoLine("a line without its ;")
    at = words.index(";")
    rows = rows_in(words[at + 1:])
    if words[0] == "deal":
        return deal_in(words[:at], rows)
    if words[0] == "mark":
        return mark_in(words[:at], rows)
    raise NoLine(f"neither a deal nor a mark: {text!r}")
