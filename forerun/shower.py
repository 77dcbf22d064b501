"""Dealings shown: a list of rows becomes the text that is read to it."""

from forerun.terms import words_of


def row_words(row):
    if row[0] == "take":
        return ["take", row[1]] + words_of(row[2]) + ["as", row[3]]
    if row[0] == "give":
        return ["give", row[1]] + words_of(row[2]) + words_of(row[3])
    if row[0] == "let":
        return ["let", row[1]] + words_of(row[2])
    # say, off and if have one term and nothing else in their row of the text.
    return [row[0]] + words_of(row[1])


def block_texts(row):
    texts = row_texts(row[2])
    if row[3] != []:
        texts = texts + ["else"] + row_texts(row[3])
    return texts + ["end"]


def row_texts(rows):
    texts = []
    for row in rows:
        texts.append(" ".join(row_words(row)))
        if row[0] == "if":
            texts.extend(block_texts(row))
    return texts


def shown(rows):
    return "\n".join(row_texts(rows))
