"""Runs: a code gone through without a table, a step at a time, and the paper that comes of it."""

from forerun.errors import Great, Nought
from forerun.tables import stands
from forerun.terms import reckoned


class Run:
    def __init__(self, code):
        self.code = list(code)
        self.at = 0
        # Why the run was broken off, once it was.
        self.why = None
        self.slots = {}
        self.gifts = {}
        # A dict keeps the order in which keys came: the order in which the places were asked for.
        self.notes = {}
        self.sayings = []

    def over(self):
        return self.why is not None or self.at >= len(self.code)

    def asks(self):
        if self.over() or self.code[self.at][0] != "take":
            return None
        try:
            place = self.place_in(self.code[self.at])
        except (Great, Nought):
            # The step itself will break the run off; asking changes nothing.
            return None
        if place in self.gifts or place in self.notes:
            return None
        return place

    def step(self, worth=0):
        if self.over():
            return
        try:
            self.at = self.led_by(self.code[self.at], worth)
        except Great:
            self.why = "great"
        except Nought:
            self.why = "nought"

    def paper(self):
        if not self.over():
            return None
        notes = list(self.notes.items())
        if self.why is not None:
            return (("off", self.why), notes, [])
        return (("done", tuple(self.sayings)), notes, sorted(self.gifts.items()))

    def worth_of(self, term):
        return reckoned(term, self.slots)

    def place_in(self, due):
        return (due[1], self.worth_of(due[2]))

    def led_by(self, due, worth):
        # Makes the step that is due, and tells the number of the step to which it leads.
        if due[0] == "go":
            return due[1]
        if due[0] == "skip":
            return due[2] if self.worth_of(due[1]) == 0 else self.at + 1
        if due[0] == "off":
            if self.worth_of(due[1]) != 0:
                self.why = "told"
        else:
            self.does(due, worth)
        return self.at + 1

    def does(self, due, worth):
        if due[0] == "take":
            self.slots[due[3]] = self.taken(self.place_in(due), worth)
        elif due[0] == "give":
            place = self.place_in(due)
            # On a row of its own, for Python reckons what is assigned ahead of the place to which it goes.
            self.gifts[place] = self.worth_of(due[3])
        elif due[0] == "let":
            self.slots[due[1]] = self.worth_of(due[2])
        else:
            self.sayings.append(self.worth_of(due[1]))

    def taken(self, place, worth):
        if place in self.gifts:
            return self.gifts[place]
        if place not in self.notes:
            self.notes[place] = worth
        return self.notes[place]


def fed(code, table):
    run = Run(code)
    while not run.over():
        place = run.asks()
        run.step(0 if place is None else stands(table, place))
    return run.paper()
