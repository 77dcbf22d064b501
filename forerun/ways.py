"""Ways: which one is taken up of the ranks that wait."""


class Way:
    def chosen(self, ranks):
        return ranks[0]


class Highest(Way):
    def chosen(self, ranks):
        return ranks[-1]


class Turning(Way):
    def __init__(self):
        self.times = 0

    def chosen(self, ranks):
        at = self.times % len(ranks)
        self.times += 1
        return ranks[at]
