"""Dealings done alone, and one by one."""

from forerun.errors import Great, Nought
from forerun.tables import table_of
from forerun.terms import reckoned


class Doing:
    # One dealing on its way through its rows.

    def __init__(self, table):
        self.slots = {}
        # Table and gifts in one: what is taken from a place is then what was given there last.
        self.worths = dict(table)
        self.sayings = []

    def worth_of(self, term):
        return reckoned(term, self.slots)

    def goes_through(self, rows):
        # Tells whether it came behind the last row: an off row ends it wherever it stands.
        for row in rows:
            if row[0] == "off":
                if self.worth_of(row[1]) != 0:
                    return False
            elif row[0] == "if":
                if not self.goes_through(row[2] if self.worth_of(row[1]) != 0 else row[3]):
                    return False
            else:
                self.does(row)
        return True

    def does(self, row):
        if row[0] == "take":
            self.slots[row[3]] = self.worths.get((row[1], self.worth_of(row[2])), 0)
        elif row[0] == "give":
            place = (row[1], self.worth_of(row[2]))
            # On a row of its own, for Python reckons what is assigned ahead of the place to which it goes.
            self.worths[place] = self.worth_of(row[3])
        elif row[0] == "let":
            self.slots[row[1]] = self.worth_of(row[2])
        else:
            self.sayings.append(self.worth_of(row[1]))


def broken_off(why, table):
    return (("off", why), list(table))


def alone(rows, table):
    doing = Doing(table)
    try:
        came_through = doing.goes_through(rows)
    except Great:
        return broken_off("great", table)
    except Nought:
        return broken_off("nought", table)
    if not came_through:
        return broken_off("told", table)
    return (("done", tuple(doing.sayings)), table_of(list(doing.worths.items())))


def one_by_one(dealings, table):
    outcomes = []
    behind = list(table)
    for rows in dealings:
        done = alone(rows, behind)
        outcomes.append(done[0])
        behind = done[1]
    return (outcomes, behind)
