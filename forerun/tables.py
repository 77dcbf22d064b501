"""Tables: which worth stands at which place."""


def table_of(rows):
    # A dict keeps the last worth of each place, as laying the rows one after the other does.
    worths = dict(rows)
    # 0 stands wherever nothing is told: left out, so that two tables with the same worths are the same list.
    return [(place, worths[place]) for place in sorted(worths) if worths[place] != 0]


def stands(table, place):
    return dict(table).get(place, 0)


def laid_on(table, gifts):
    return table_of(table + gifts)
