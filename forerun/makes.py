"""Makes: what ranks put at places, over a table."""

from forerun.errors import Folded
from forerun.tables import table_of


def many_below(ranks, rank):
    # How many of the ranks, a rising list, are below this one: the half in which the bound lies is halved again.
    low = 0
    high = len(ranks)
    while low < high:
        amid = (low + high) // 2
        if ranks[amid] < rank:
            low = amid + 1
        else:
            high = amid
    return low


def put_rank(ranks_at, place, rank):
    # Into the rising list that the dict has for the place.
    ranks = ranks_at.setdefault(place, [])
    ranks.insert(many_below(ranks, rank), rank)


def drop_rank(ranks_at, place, rank):
    ranks = ranks_at[place]
    ranks.remove(rank)
    # No empty list is kept, so that what is taken away leaves nothing behind.
    if ranks == []:
        ranks_at.pop(place)


class Makes:
    def __init__(self, table):
        self.ground = dict(table)
        self.folded = 0
        # From each rank that has makes to a dict from places to worths; and, so that seeing need not walk all ranks,
        # from each place that has makes to the rising list of their ranks.
        self.worths = {}
        self.ranks = {}

    def seen(self, place, rank):
        self.heed_fold(rank)
        ranks = self.ranks.get(place, [])
        below = many_below(ranks, rank)
        if below == 0:
            return self.ground.get(place, 0)
        return self.worths[ranks[below - 1]][place]

    def lay(self, rank, gifts):
        self.heed_fold(rank)
        self.take_away(rank)
        worths = dict(gifts)
        for place in worths:
            put_rank(self.ranks, place, rank)
        self.worths[rank] = worths

    def table_for(self, rank):
        self.heed_fold(rank)
        places = list(self.ground) + list(self.ranks)
        return table_of([(place, self.seen(place, rank)) for place in places])

    def fold(self, rank):
        # The table comes first: it is refused ahead of any change, and needs the makes that are then taken away.
        self.ground = dict(self.table_for(rank))
        lower = [laid for laid in self.worths if laid < rank]
        for laid in lower:
            self.take_away(laid)
        self.folded = rank

    def kept(self):
        return sum([len(self.worths[rank]) for rank in self.worths])

    def places_of(self, rank):
        return list(self.worths.get(rank, {}))

    def next_above(self, place, rank):
        # The lowest rank above this one that has a make there, or None.
        ranks = self.ranks.get(place, [])
        above = many_below(ranks, rank + 1)
        return None if above == len(ranks) else ranks[above]

    def heed_fold(self, rank):
        if rank < self.folded:
            # Without the rank: Python fails in a way of its own where it writes figures by the thousand.
            raise Folded("a rank below the one to which the makes are folded")

    def take_away(self, rank):
        places = self.places_of(rank)
        self.worths.pop(rank, None)
        for place in places:
            drop_rank(self.ranks, place, rank)
