"""Rounds: which papers could be done at once, and why fewer rounds can't be."""


def gives_into(one, other):
    known = dict(other[1] + other[2])
    return any([place in known for place, worth in one[2]])


def meet(one, other):
    return gives_into(one, other) or gives_into(other, one)


def meeting(papers, ranks, rank):
    return [one for one in ranks if meet(papers[one], papers[rank])]


def round_for(papers, told, rank):
    # told are the rounds of all lower ranks; the last one that has a paper met is sought from behind.
    at = len(told)
    while at > 0 and meeting(papers, told[at - 1], rank) == []:
        at -= 1
    return at


def rounds(papers):
    told = []
    for rank in range(len(papers)):
        at = round_for(papers, told, rank)
        if at == len(told):
            told.append([])
        told[at].append(rank)
    return told


def chain(papers):
    told = rounds(papers)
    if told == []:
        return []
    linked = [told[-1][0]]
    for ranks in reversed(told[:-1]):
        linked.append(meeting(papers, ranks, linked[-1])[0])
    return list(reversed(linked))
