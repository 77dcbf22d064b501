"""Logs: coming up from one, and cutting one short."""

from forerun.errors import NoLine, NoLog
from forerun.lines import line_read
from forerun.tables import table_of


def lines_of(text):
    # What stands behind the last line feed was cut off amid a line, or is nothing.
    return text.split("\n")[:-1]


def text_of(lines):
    return "".join([line + "\n" for line in lines])


def entry_in(line):
    try:
        return line_read(line)
    except NoLine as refusal:
        raise NoLog(f"a line of the log is none: {line!r}") from refusal


def entries_of(text):
    entries = [entry_in(line) for line in lines_of(text)]
    if entries == [] or entries[0][0] != "mark":
        raise NoLog("a log without a mark as its first line")
    return entries


def come_up(text):
    entries = entries_of(text)
    rank = entries[0][1]
    # Gifts are gathered, and made a table only where one is due.
    rows = list(entries[0][2])
    told = []
    for entry in entries[1:]:
        if entry[1] != rank:
            raise NoLog(f"a line out of turn: {rank} is due")
        if entry[0] == "deal":
            rows.extend(entry[3])
            told.append((rank, entry[2]))
            rank += 1
        elif entry[2] != table_of(rows):
            raise NoLog(f"another table than is behind all below {rank}")
    return (rank, table_of(rows), told)


def cut_short(text):
    # For its refusals alone: they are due for what is cut off too.
    come_up(text)
    lines = lines_of(text)
    marks = [at for at, line in enumerate(lines) if line.startswith("mark")]
    return text_of(lines[marks[-1]:])
