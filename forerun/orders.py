"""Orders: in which other orders dealings may be done, and what comes of doing them so."""

from forerun.errors import NoOrder
from forerun.rounds import meeting
from forerun.runs import fed
from forerun.tables import laid_on


def heed_order(order, many):
    if sorted(order) != list(range(many)):
        # Without the order: Python fails in a way of its own where it writes figures by the thousand.
        raise NoOrder(f"not each rank below {many} once")


def keeps(papers, order):
    heed_order(order, len(papers))
    for at, rank in enumerate(order):
        higher = [other for other in order[:at] if other > rank]
        if meeting(papers, higher, rank) != []:
            return False
    return True


def in_order(codes, table, order):
    heed_order(order, len(codes))
    papers = {}
    behind = list(table)
    for rank in order:
        papers[rank] = fed(codes[rank], behind)
        behind = laid_on(behind, papers[rank][2])
    return ([papers[rank] for rank in range(len(codes))], behind)
