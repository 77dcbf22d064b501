"""Dealings made up for tests, each as its text and as the rows to which that text is to be read; and an own doing of
them, along the rows of the text, to hold the program's against."""

import random

SEVEN = ["plus", "minus", "times", "over", "rest", "under", "same"]
SHELVES = ["a", "ab", "b", "silver"]
SLOTS = ["x", "y", "z", "a"]
MOST = 10 ** 30


class Maker:
    """The same seed makes the same dealings, on every run."""

    def __init__(self, seed):
        self.chance = random.Random(seed)

    def one_of(self, things):
        return things[self.chance.randrange(len(things))]

    def leaf(self):
        if self.chance.randrange(2):
            return self.one_of(SLOTS)
        if self.chance.randrange(12) == 0:
            return self.one_of([10 ** 30, -(10 ** 30), 10 ** 16])
        return self.chance.randrange(-2, 4)

    def term(self, joints=None):
        """A tuple (words written ahead, term as told)."""
        left = self.one_of([0, 0, 1, 1, 2, 3]) if joints is None else joints
        if left == 0:
            leaf = self.leaf()
            return ([str(leaf)], (leaf,))
        ahead = self.chance.randrange(left)
        first, second = self.term(ahead), self.term(left - 1 - ahead)
        word = self.one_of(SEVEN)
        return ([word] + first[0] + second[0], first[1] + second[1] + (word,))

    def flat(self):
        kind = self.one_of(["take", "take", "give", "give", "let", "say", "say", "off"])
        words, term = self.term()
        shelf, slot = self.one_of(SHELVES), self.one_of(SLOTS)
        if kind == "take":
            return (["take", shelf] + words + ["as", slot], ("take", shelf, term, slot))
        if kind == "give":
            others, other = self.term()
            return (["give", shelf] + words + others, ("give", shelf, term, other))
        if kind == "let":
            return (["let", slot] + words, ("let", slot, term))
        if kind == "off" and self.chance.randrange(3):
            return (["off", "0"], ("off", (0,)))
        return ([kind] + words, (kind, term))

    def block(self, most, deep):
        """As rows does; at most so many rows of text, the if, the else and the end among them."""
        words, term = self.term()
        texts, inner = self.rows(self.chance.randrange(max(1, most - 3)), deep - 1)
        others, other = [], []
        if self.chance.randrange(2):
            others, other = self.rows(max(0, min(most - 3 - len(texts), 6)), deep - 1)
        amid = ["else"] + others if others else []
        return ([" ".join(["if"] + words)] + texts + amid + ["end"], ("if", term, inner, other))

    def rows(self, most, deep):
        """A tuple (rows of text, rows as told), at most so many rows of text, blocks at most so deep."""
        texts, told = [], []
        while len(texts) < most:
            room = most - len(texts)
            if deep > 0 and room >= 2 and self.chance.randrange(3) == 0:
                if room == 2:
                    words, term = self.term()
                    texts.extend([" ".join(["if"] + words), "end"])
                    told.append(("if", term, [], []))
                else:
                    made, row = self.block(room, deep)
                    texts.extend(made)
                    told.append(row)
            else:
                words, row = self.flat()
                texts.append(" ".join(words))
                told.append(row)
        return (texts, told)

    def dealing(self, most=None):
        """A tuple (text, rows)."""
        texts, told = self.rows(self.chance.randrange(41) if most is None else most, 5)
        return ("\n".join(texts), told)

    def table(self):
        places = {}
        for shelf in SHELVES:
            for number in range(-2, 4):
                if self.chance.randrange(3) == 0:
                    places[(shelf, number)] = self.one_of([-3, -1, 1, 2, 5, 10 ** 30])
        return sorted(places.items())


def lists_in(rows):
    """All lists that rows are made of, the outer one and those within if rows."""
    found = [rows]
    for row in rows:
        if row[0] == "if":
            found.extend(lists_in(row[2]))
            found.extend(lists_in(row[3]))
    return found


class BrokenOff(Exception):
    pass


def own_worth(words, slots):
    """The worth of a term written ahead; takes its words from the list."""
    word = words.pop(0)
    if word not in SEVEN:
        return slots.get(word, 0) if word.isalpha() else int(word)
    first = own_worth(words, slots)
    second = own_worth(words, slots)
    if word in ("over", "rest") and second == 0:
        raise BrokenOff("nought")
    worth = {
        "plus": lambda: first + second,
        "minus": lambda: first - second,
        "times": lambda: first * second,
        "over": lambda: first // second,
        "rest": lambda: first - second * (first // second),
        "under": lambda: int(first < second),
        "same": lambda: int(first == second),
    }[word]()
    if abs(worth) > MOST:
        raise BrokenOff("great")
    return worth


def block_bounds(texts):
    """For each if the place of its else (or its end) and of its end; for each else that of its end."""
    bounds, ifs = {}, []
    for at, text in enumerate(texts):
        if text.startswith("if "):
            ifs.append([at])
        elif text == "else":
            ifs[-1].append(at)
        elif text == "end":
            found = ifs.pop() + [at]
            bounds[found[0]] = found[1]
            if len(found) == 3:
                bounds[found[1]] = at
    return bounds


def own_paper(text, answer):
    """The paper of a dealing that is told by the function answer what stands at a place."""
    texts = text.split("\n") if text else []
    bounds = block_bounds(texts)
    slots, known, noted, given, said, at = {}, {}, [], {}, [], 0
    try:
        while at < len(texts):
            words = texts[at].split(" ")
            form = words.pop(0)
            if form == "take":
                shelf, number = words.pop(0), own_worth(words, slots)
                if (shelf, number) not in known:
                    known[(shelf, number)] = answer((shelf, number))
                    noted.append(((shelf, number), known[(shelf, number)]))
                slots[words[-1]] = known[(shelf, number)]
            elif form == "give":
                shelf, number = words.pop(0), own_worth(words, slots)
                known[(shelf, number)] = given[(shelf, number)] = own_worth(words, slots)
            elif form == "let":
                slot = words.pop(0)
                slots[slot] = own_worth(words, slots)
            elif form == "say":
                said.append(own_worth(words, slots))
            elif form == "off" and own_worth(words, slots) != 0:
                raise BrokenOff("told")
            elif form == "else" or form == "if" and own_worth(words, slots) == 0:
                at = bounds[at]
            at += 1
    except BrokenOff as broken:
        return (("off", str(broken)), noted, [])
    return (("done", tuple(said)), noted, sorted(given.items()))


def own_alone(text, table):
    outcome, noted, gifts = own_paper(text, lambda place: dict(table).get(place, 0))
    behind = dict(table)
    behind.update(gifts)
    return (outcome, sorted(row for row in behind.items() if row[1] != 0))
