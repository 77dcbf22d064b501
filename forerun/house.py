"""The house: dealings handed in as texts, done by the hands of a desk, and a log of what was settled."""

from forerun.codes import code_of
from forerun.desk import Desk
from forerun.lines import deal_line, mark_line
from forerun.logs import come_up, lines_of, text_of
from forerun.reader import read


def new_log(table):
    return text_of([mark_line(0, table)])


class House:
    def __init__(self, log, hands, way):
        came = come_up(log)
        # The rank that the next deal of the log will have.
        self.due = came[0]
        self.told = came[2]
        self.lines = lines_of(log)
        self.desk = Desk(came[1], hands, way, self.due)

    def hand_in(self, text):
        return self.desk.add(code_of(read(text)))

    def move(self, hand):
        did = self.desk.move(hand)
        self.write_settled()
        return did

    def finish(self):
        did = self.desk.finish()
        self.write_settled()
        return did

    def settled(self):
        return self.desk.settled()

    def table(self):
        return self.desk.table()

    def kept(self):
        return self.desk.kept()

    def mark(self):
        self.lines.append(mark_line(self.settled(), self.table()))
        self.desk.fold()

    def log(self):
        return text_of(self.lines)

    def answers(self):
        return list(self.told)

    def write_settled(self):
        for paper in self.desk.ended[self.due - self.desk.first:]:
            self.lines.append(deal_line(self.due, paper))
            self.told.append((self.due, paper[0]))
            self.due += 1
