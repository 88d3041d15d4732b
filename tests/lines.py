"""Texts that are nearly lines, and how far a list of lines goes along with them."""

import bisect
import os

SIGNS = " ;\nabz019"


def column_in(lines, text):
    """The length of the longest beginning of text with which one of these sorted lines begins."""
    # In a sorted list the line with the longest common beginning stands beside the text.
    at = bisect.bisect_left(lines, text)
    beside = lines[max(0, at - 1):at + 1]
    return max([len(os.path.commonprefix([line, text])) for line in beside], default=0)


def spoiled(text, chance):
    """The text with signs or words changed, left out, put in, cut or exchanged."""
    at = chance.randrange(len(text) + 1)
    words = text.split(" ")
    k = chance.randrange(len(words))
    other = chance.randrange(len(words))
    way = chance.randrange(9)
    if way == 0:
        return text[:at]
    if way == 1:
        return text[:at] + chance.choice(SIGNS) + text[at:]
    if way == 2:
        return text[:at] + text[at + 1:]
    if way == 3:
        return text[:at] + chance.choice(SIGNS) + text[at + 1:]
    if way == 4:
        return " ".join(words[:k] + words[k + 1:])
    if way == 5:
        return " ".join(words[:k] + [words[other]] + words[k:])
    if way == 6:
        words[k], words[other] = words[other], words[k]
        return " ".join(words)
    if way == 7:
        return text + chance.choice([" ", "\n", ";", "x", "0", " a"])
    return text[at:]
