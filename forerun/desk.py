"""The desk: hands that run codes ahead of their turn, a step at a time, and settle their papers in turn."""

from forerun.errors import NoHand
from forerun.jobs import Jobs
from forerun.makes import Makes, many_below
from forerun.runs import Run


class Desk:
    def __init__(self, table, hands, way, first=0):
        self.hands = hands
        self.way = way
        self.first = first
        self.codes = []
        self.waiting = []
        # From each hand that is not free to a tuple (rank, run).
        self.held = {}
        self.makes = Makes(table)
        self.jobs = Jobs(self.makes)
        self.ended = []

    def add(self, code):
        rank = self.next_rank()
        self.codes.append(list(code))
        self.waiting.append(rank)
        return rank

    def move(self, hand):
        if hand < 0 or hand >= self.hands:
            # Without the number: Python fails in a way of its own where it writes figures by the thousand.
            raise NoHand("no hand of this desk")
        if hand not in self.held:
            return self.moved_free(hand)
        rank = self.held[hand][0]
        run = self.held[hand][1]
        if run.over():
            self.held.pop(hand)
            self.jobs.lay_down(rank, run.paper())
            return ("lay", hand, rank)
        place = run.asks()
        if place is None:
            run.step()
            return ("step", hand, rank)
        worth = self.makes.seen(place, rank)
        run.step(worth)
        return ("read", hand, rank, place, worth)

    def finish(self):
        told = []
        while self.settled() < self.next_rank():
            told.append(self.move(len(told) % self.hands))
        return told

    def settled(self):
        return self.first + len(self.ended)

    def papers(self):
        return [(paper[0], list(paper[1]), list(paper[2])) for paper in self.ended]

    def table(self):
        return self.makes.table_for(self.settled())

    def fold(self):
        self.makes.fold(self.settled())

    def kept(self):
        return self.makes.kept()

    def next_rank(self):
        return self.first + len(self.codes)

    def moved_free(self, hand):
        lowest = self.settled()
        changed = self.jobs.lowest_changed()
        if lowest in self.jobs.laid and (changed is None or changed[0] != lowest):
            self.ended.append(self.jobs.take_off(lowest))
            return ("settle", hand, lowest)
        if changed is not None:
            self.jobs.take_off(changed[0])
            self.waiting.insert(many_below(self.waiting, changed[0]), changed[0])
            return ("again", hand) + changed
        if self.waiting != []:
            return self.taken_up(hand)
        return ("rest", hand)

    def taken_up(self, hand):
        # A list of its own, for what the way does with it must not change what waits.
        rank = self.way.chosen(list(self.waiting))
        self.waiting.remove(rank)
        self.held[hand] = (rank, Run(self.codes[rank - self.first]))
        return ("take", hand, rank)
