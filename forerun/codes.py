"""Codes: the rows of a dealing as a list of steps, blocks laid flat."""


def steps_of(rows, first):
    # first is the number that the first of these steps has in the whole list.
    steps = []
    for row in rows:
        if row[0] == "if":
            steps.extend(block_steps(row, first + len(steps)))
        else:
            steps.append(row)
    return steps


def block_steps(row, at):
    steps = steps_of(row[2], at + 1)
    to = at + 1 + len(steps)
    if row[3] == []:
        return [("skip", row[1], to)] + steps
    # The go stands at to: who skips the rows comes behind it, into the other rows.
    others = steps_of(row[3], to + 1)
    return [("skip", row[1], to + 1)] + steps + [("go", to + 1 + len(others))] + others


def code_of(rows):
    return steps_of(rows, 0)
