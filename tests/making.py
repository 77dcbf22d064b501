"""Dealings made up for tests, each as its text and as the rows to which that text is to be read; an own doing of them,
along the rows of the text, own makes, an own desk, own lines of a log and an own house, to hold the program's against;
papers made up, and desks set up for tests."""

import random

from forerun.codes import code_of
from forerun.desk import Desk
from forerun.errors import Folded
from forerun.reader import read
from forerun.ways import Highest, Turning, Way

SEVEN = ["plus", "minus", "times", "over", "rest", "under", "same"]
SHELVES = ["a", "ab", "b", "silver"]
SLOTS = ["x", "y", "z", "a"]
MOST = 10 ** 30
# Each way with an own choosing, of the ranks that wait and of how often it was asked ahead.
WAYS = [
    (Way, lambda ranks, often: ranks[0]),
    (Highest, lambda ranks, often: ranks[-1]),
    (Turning, lambda ranks, often: ranks[often % len(ranks)]),
]


class Maker:
    """The same seed makes the same dealings, on every run."""

    def __init__(self, seed):
        self.chance = random.Random(seed)

    def one_of(self, things):
        return things[self.chance.randrange(len(things))]

    def leaf(self):
        if self.chance.randrange(2):
            return self.one_of(SLOTS)
        if self.chance.randrange(12) == 0:
            return self.one_of([10 ** 30, -(10 ** 30), 10 ** 16])
        return self.chance.randrange(-2, 4)

    def term(self, joints=None):
        """A tuple (words written ahead, term as told)."""
        left = self.one_of([0, 0, 1, 1, 2, 3]) if joints is None else joints
        if left == 0:
            leaf = self.leaf()
            return ([str(leaf)], (leaf,))
        ahead = self.chance.randrange(left)
        first, second = self.term(ahead), self.term(left - 1 - ahead)
        word = self.one_of(SEVEN)
        return ([word] + first[0] + second[0], first[1] + second[1] + (word,))

    def flat(self):
        kind = self.one_of(["take", "take", "give", "give", "let", "say", "say", "off"])
        words, term = self.term()
        shelf, slot = self.one_of(SHELVES), self.one_of(SLOTS)
        if kind == "take":
            return (["take", shelf] + words + ["as", slot], ("take", shelf, term, slot))
        if kind == "give":
            others, other = self.term()
            return (["give", shelf] + words + others, ("give", shelf, term, other))
        if kind == "let":
            return (["let", slot] + words, ("let", slot, term))
        if kind == "off" and self.chance.randrange(3):
            return (["off", "0"], ("off", (0,)))
        return ([kind] + words, (kind, term))

    def block(self, most, deep):
        """As rows does; at most so many rows of text, the if, the else and the end among them."""
        words, term = self.term()
        texts, inner = self.rows(self.chance.randrange(max(1, most - 3)), deep - 1)
        others, other = [], []
        if self.chance.randrange(2):
            others, other = self.rows(max(0, min(most - 3 - len(texts), 6)), deep - 1)
        amid = ["else"] + others if others else []
        return ([" ".join(["if"] + words)] + texts + amid + ["end"], ("if", term, inner, other))

    def rows(self, most, deep):
        """A tuple (rows of text, rows as told), at most so many rows of text, blocks at most so deep."""
        texts, told = [], []
        while len(texts) < most:
            room = most - len(texts)
            if deep > 0 and room >= 2 and self.chance.randrange(3) == 0:
                if room == 2:
                    words, term = self.term()
                    texts.extend([" ".join(["if"] + words), "end"])
                    told.append(("if", term, [], []))
                else:
                    made, row = self.block(room, deep)
                    texts.extend(made)
                    told.append(row)
            else:
                words, row = self.flat()
                texts.append(" ".join(words))
                told.append(row)
        return (texts, told)

    def dealing(self, most=None):
        """A tuple (text, rows)."""
        texts, told = self.rows(self.chance.randrange(41) if most is None else most, 5)
        return ("\n".join(texts), told)

    def busy(self):
        """The text of a dealing that takes from few places and gives to them again, so that many of them meet."""
        rows = []
        for k in range(self.chance.randrange(1, 7)):
            slot, number, more = self.one_of("xyz"), self.chance.randrange(4), self.chance.randrange(-2, 4)
            give = f"give a {number} plus {slot} {more}"
            rows.append(self.one_of([
                f"take a {number} as {slot}", f"take a {number} as {slot}", f"take a rest {slot} 3 as {slot}", give,
                give, f"say {slot}", f"if rest {slot} 2\n{give}\nend", f"if under {slot} 2\nsay 1\nelse\n{give}\nend",
                f"off under 9 {slot}", f"say over 5 {slot}",
            ]))
        return "\n".join(rows)

    def table(self):
        places = {}
        for shelf in SHELVES:
            for number in range(-2, 4):
                if self.chance.randrange(3) == 0:
                    places[(shelf, number)] = self.one_of([-3, -1, 1, 2, 5, 10 ** 30])
        return sorted(places.items())


def lists_in(rows):
    """All lists that rows are made of, the outer one and those within if rows."""
    found = [rows]
    for row in rows:
        if row[0] == "if":
            found.extend(lists_in(row[2]))
            found.extend(lists_in(row[3]))
    return found


class BrokenOff(Exception):
    pass


def own_worth(words, slots):
    """The worth of a term written ahead; takes its words from the list."""
    word = words.pop(0)
    if word not in SEVEN:
        return slots.get(word, 0) if word.isalpha() else int(word)
    first = own_worth(words, slots)
    second = own_worth(words, slots)
    if word in ("over", "rest") and second == 0:
        raise BrokenOff("nought")
    worth = {
        "plus": lambda: first + second,
        "minus": lambda: first - second,
        "times": lambda: first * second,
        "over": lambda: first // second,
        "rest": lambda: first - second * (first // second),
        "under": lambda: int(first < second),
        "same": lambda: int(first == second),
    }[word]()
    if abs(worth) > MOST:
        raise BrokenOff("great")
    return worth


def block_bounds(texts):
    """For each if the place of its else (or its end) and of its end; for each else that of its end."""
    bounds, ifs = {}, []
    for at, text in enumerate(texts):
        if text.startswith("if "):
            ifs.append([at])
        elif text == "else":
            ifs[-1].append(at)
        elif text == "end":
            found = ifs.pop() + [at]
            bounds[found[0]] = found[1]
            if len(found) == 3:
                bounds[found[1]] = at
    return bounds


def own_steps(text):
    """A generator of the steps of a dealing: at each it yields the place that is asked for, or None, and is sent what
    stands there; behind the last one it gives back the paper."""
    texts = text.split("\n") if text else []
    bounds = block_bounds(texts)
    slots, known, noted, given, said, at = {}, {}, [], {}, [], 0
    try:
        while at < len(texts):
            words = texts[at].split(" ")
            form = words.pop(0)
            if form == "take":
                try:
                    place = (words.pop(0), own_worth(words, slots))
                except BrokenOff:
                    yield None
                    raise
                answer = yield None if place in known else place
                if place not in known:
                    known[place] = answer
                    noted.append((place, answer))
                slots[words[-1]] = known[place]
            elif form != "end" and (form != "else" or bounds[at] > at + 1):
                # An end is no step, nor is an else with nothing behind it.
                yield None
            if form == "give":
                shelf, number = words.pop(0), own_worth(words, slots)
                known[(shelf, number)] = given[(shelf, number)] = own_worth(words, slots)
            elif form == "let":
                slot = words.pop(0)
                slots[slot] = own_worth(words, slots)
            elif form == "say":
                said.append(own_worth(words, slots))
            elif form == "off" and own_worth(words, slots) != 0:
                raise BrokenOff("told")
            elif form == "else" or form == "if" and own_worth(words, slots) == 0:
                at = bounds[at]
            at += 1
    except BrokenOff as broken:
        return (("off", str(broken)), noted, [])
    return (("done", tuple(said)), noted, sorted(given.items()))


def sent(steps, answer):
    """A tuple (place asked for by the step that is now due, None), or (None, paper) where there is none."""
    try:
        return (steps.send(answer), None)
    except StopIteration as over:
        return (None, over.value)


def own_paper(text, answer):
    """The paper of a dealing that is told by the function answer what stands at a place."""
    steps = own_steps(text)
    place, paper = sent(steps, None)
    while paper is None:
        place, paper = sent(steps, None if place is None else answer(place))
    return paper


def own_papers(texts, table):
    """A tuple (papers of the dealings done one by one, tables ahead of and behind each)."""
    papers, tables = [], [table]
    for text in texts:
        papers.append(own_paper(text, lambda place: dict(tables[-1]).get(place, 0)))
        tables.append(own_alone(text, tables[-1])[1])
    return (papers, tables)


def own_alone(text, table):
    outcome, noted, gifts = own_paper(text, lambda place: dict(table).get(place, 0))
    behind = dict(table)
    behind.update(gifts)
    return (outcome, sorted(row for row in behind.items() if row[1] != 0))


class OwnMakes:
    """A list of all makes, walked whole at each asking."""

    def __init__(self, table):
        self.ground, self.bound, self.makes = list(table), 0, []

    def heed(self, rank):
        if rank < self.bound:
            raise Folded

    def seen(self, place, rank):
        self.heed(rank)
        found = [worth for at, worth in self.ground if at == place]
        for maker, at, worth in sorted(self.makes):
            if at == place and maker < rank:
                found.append(worth)
        return found[-1] if found else 0

    def lay(self, rank, gifts):
        self.heed(rank)
        self.makes = [make for make in self.makes if make[0] != rank] + [(rank, at, worth) for at, worth in gifts]

    def table_for(self, rank):
        self.heed(rank)
        places = sorted({at for at, worth in self.ground} | {at for maker, at, worth in self.makes})
        return [(at, self.seen(at, rank)) for at in places if self.seen(at, rank) != 0]

    def fold(self, rank):
        self.ground = self.table_for(rank)
        self.makes = [make for make in self.makes if make[0] >= rank]
        self.bound = rank

    def kept(self):
        return len(self.makes)


class OwnDesk:
    """A desk that looks at everything anew at each move. choose is a function of the ranks that wait and of how often
    it was asked ahead; a rank is "waiting", "held", "settled", or has a paper."""

    def __init__(self, table, hands, choose, first=0):
        self.makes, self.held, self.choose, self.asked = OwnMakes(table), [None] * hands, choose, 0
        self.first, self.texts, self.states, self.papers = first, {}, {}, []

    def add(self, text):
        rank = self.first + len(self.texts)
        self.texts[rank], self.states[rank] = text, "waiting"
        return rank

    def settled(self):
        return self.first + len(self.papers)

    def fold(self):
        self.makes.fold(self.settled())

    def move(self, hand):
        if self.held[hand] is None:
            return self.free(hand)
        rank, steps, place, paper = self.held[hand]
        if paper is not None:
            self.makes.lay(rank, paper[2])
            self.states[rank], self.held[hand] = paper, None
            return ("lay", hand, rank)
        worth = None if place is None else self.makes.seen(place, rank)
        self.held[hand] = (rank, steps) + sent(steps, worth)
        return ("step", hand, rank) if place is None else ("read", hand, rank, place, worth)

    def finish(self):
        told = []
        while self.settled() < self.first + len(self.texts):
            told.append(self.move(len(told) % len(self.held)))
        return told

    def free(self, hand):
        laid = [rank for rank, state in sorted(self.states.items()) if isinstance(state, tuple)]
        changes = {rank: self.changes(rank) for rank in laid}
        lowest = self.settled()
        if lowest in laid and not changes[lowest]:
            self.papers.append(self.states[lowest])
            self.states[lowest] = "settled"
            return ("settle", hand, lowest)
        for rank in laid:
            if changes[rank]:
                self.states[rank] = "waiting"
                return ("again", hand, rank) + changes[rank][0]
        waiting = [rank for rank, state in sorted(self.states.items()) if state == "waiting"]
        if not waiting:
            return ("rest", hand)
        rank = self.choose(waiting, self.asked)
        self.asked += 1
        steps = own_steps(self.texts[rank])
        self.states[rank], self.held[hand] = "held", (rank, steps) + sent(steps, None)
        return ("take", hand, rank)

    def changes(self, rank):
        noted = [(place, worth, self.makes.seen(place, rank)) for place, worth in self.states[rank][1]]
        return [note for note in noted if note[1] != note[2]]


def paper(notes=(), gifts=(), outcome=("done", ())):
    """A paper that noted and gave at these places."""
    return (outcome, [(place, 3) for place in notes], [(place, 5) for place in sorted(gifts)])


def made_up(chance, many, places):
    """Papers that noted and gave at some of these places."""
    papers = []
    for k in range(many):
        notes, gifts = chance.sample(places, chance.randrange(4)), chance.sample(places, chance.choice([0, 1, 1, 2]))
        papers.append(paper(notes, gifts) if chance.randrange(5) else paper(notes, [], ("off", "told")))
    return papers


def own_meet(one, other):
    gave, other_gave = {row[0] for row in one[2]}, {row[0] for row in other[2]}
    noted, other_noted = {row[0] for row in one[1]}, {row[0] for row in other[1]}
    return bool(gave & other_gave or gave & other_noted or noted & other_gave)


def own_line(body):
    """A body with its check behind it, summed up sign by sign."""
    total, factor = 0, 1
    for sign in body:
        total = (total + ord(sign) * factor) % 1009
        factor = 1 if factor == 1008 else factor + 1
    return f"{body} {total:04d}"


def own_rows(rows):
    return "".join(f" {shelf} {number} {worth}" for (shelf, number), worth in rows)


def own_mark(rank, table):
    return own_line(f"mark {rank} ;{own_rows(table)}")


def own_deal(rank, paper):
    (ending, rest), noted, gifts = paper
    words = [rest] if ending == "off" else [str(worth) for worth in rest]
    return own_line(" ".join(["deal", str(rank), ending] + words + [";"]) + own_rows(gifts))


def own_log(lines):
    return "".join(line + "\n" for line in lines)


def own_lines(rank, table, parts):
    """The lines of a log, its first mark and one for each part, a paper or "mark"; in a tuple with a list of what
    coming up tells behind each of them."""
    lines, told, ups = [own_mark(rank, table)], [], [(rank, table, [])]
    for part in parts:
        if part == "mark":
            lines.append(own_mark(rank, table))
        else:
            lines.append(own_deal(rank, part))
            worths = dict(table)
            worths.update(part[2])
            table = sorted(row for row in worths.items() if row[1] != 0)
            told = told + [(rank, part[0])]
            rank += 1
        ups.append((rank, table, told))
    return (lines, ups)


class OwnHouse(OwnDesk):
    """A desk that writes a line for each dealing that it settles; texts are all dealings that it will be handed, from
    the rank on, each done one by one ahead: what it tells of the table and the answers is taken from there."""

    def __init__(self, lines, rank, table, told, hands, choose, texts):
        super().__init__(table, hands, choose, rank)
        self.lines, self.told, self.coming = list(lines), list(told), texts
        self.due, self.tables = own_papers(texts, table)

    def hand_in(self):
        return self.add(self.coming[len(self.texts)])

    def move(self, hand):
        did = super().move(hand)
        if did[0] == "settle":
            paper = self.due[did[2] - self.first]
            self.lines.append(own_deal(did[2], paper))
            self.told.append((did[2], paper[0]))
        return did

    def table(self):
        return self.tables[self.settled() - self.first]

    def mark(self):
        self.lines.append(own_mark(self.settled(), self.table()))
        self.fold()


def code(text):
    return code_of(read(text))


def desk_of(texts, table=(), hands=2, way=None, first=0):
    """A desk with the codes of these texts added."""
    desk = Desk(list(table), hands, Way() if way is None else way, first)
    for text in texts:
        desk.add(code(text))
    return desk


def moved(desk, hands):
    """What these hands tell, moved one after the other."""
    return [desk.move(hand) for hand in hands]
