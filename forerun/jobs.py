"""Jobs: the papers that are laid down and not settled, and which of their notes have another worth by now."""

from forerun.makes import drop_rank, many_below, put_rank


class Jobs:
    def __init__(self, makes):
        self.makes = makes
        self.laid = {}
        # So that not all notes of all papers need be looked at for each move: from each noted place to the rising list
        # of the ranks that noted it, and the ranks of which a note may have become another since it was looked at.
        self.readers = {}
        self.doubted = {}

    def lay_down(self, rank, paper):
        before = self.makes.places_of(rank)
        self.makes.lay(rank, paper[2])
        for place in before + self.makes.places_of(rank):
            self.doubt(place, rank)
        self.laid[rank] = paper
        # A lower rank may have laid something since this one read.
        self.doubted[rank] = True
        for place, worth in paper[1]:
            put_rank(self.readers, place, rank)

    def take_off(self, rank):
        # Only the paper: the makes of its gifts stay.
        paper = self.laid.pop(rank)
        self.doubted.pop(rank, None)
        for place, worth in paper[1]:
            drop_rank(self.readers, place, rank)
        return paper

    def doubt(self, place, rank):
        # What a rank puts at a place is seen above it, but only up to the next one that put something there.
        readers = self.readers.get(place, [])
        above = self.makes.next_above(place, rank)
        behind = len(readers) if above is None else many_below(readers, above + 1)
        for reader in readers[many_below(readers, rank + 1):behind]:
            self.doubted[reader] = True

    def changed_note(self, rank):
        # The first note that has another worth than is seen now, as a tuple (place, old, new), or None.
        for place, worth in self.laid[rank][1]:
            now = self.makes.seen(place, rank)
            if now != worth:
                return (place, worth, now)
        return None

    def lowest_changed(self):
        # The lowest rank with such a note, as a tuple (rank, place, old, new), or None.
        ranks = sorted(self.doubted)
        for rank in ranks:
            note = self.changed_note(rank)
            if note is not None:
                return (rank,) + note
            self.doubted.pop(rank)
        return None
