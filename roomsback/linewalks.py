"""Reading a line in all possible ways at once.

A grammar is a function that is asked for the ways on: what may stand next,
in a part of the line, behind what was read so far. It names only ways behind
which a line can be ended, so how far they go is how far a line can go.
A way is a tuple (kind, mark, value, part): what has to stand there, the tuple
that it adds to what was read, and the part behind it, "end" at the end.
"""

from roomsback.errors import InvalidText
from roomsback.kinds import LETTERS, LONGEST_NAME

MOST_DIGITS = 60
DIGITS = "0123456789"


def by_word(mark, value, part):
    """Return the way over this very string, which adds value."""
    return "word", mark, value, part


def by_number(least, part):
    """Return the way over a number that is at least 0 or 1, and is added."""
    return "number", least, (), part


def by_name(above, part):
    """Return the way over a name that is greater than above, and is added."""
    return "name", above, (), part


def word_end(text, at, mark):
    """Return how far text goes along with the string mark."""
    many = 0
    while many < len(mark) and text[at + many:at + many + 1] == mark[many]:
        many = many + 1
    return at + many


def number_end(text, at, least):
    """Return how far text goes along with a number that is at least 0 or 1."""
    if text[at:at + 1] == "0":
        return at + 1 if least == 0 else at
    end = at
    while end < len(text) and end - at < MOST_DIGITS and text[end] in DIGITS:
        end = end + 1
    return end


def name_end(text, at, above):
    """Return how far text goes along with a name that is greater than above."""
    end = at
    while end < len(text) and end - at < LONGEST_NAME and text[end] in LETTERS:
        start = text[at:end + 1]
        # The greatest name that begins so has only the letter z behind it.
        if start + "z" * (LONGEST_NAME - len(start)) <= above:
            return end
        end = end + 1
    return end


def met(text, at, way):
    """Return how far text goes along with a way, and what this adds, None if it breaks off."""
    kind, mark, value, _ = way
    if kind == "word":
        end = word_end(text, at, mark)
        return end, (value if end == at + len(mark) else None)
    if kind == "number":
        end = number_end(text, at, mark)
        return end, ((int(text[at:end]),) if end > at else None)
    end = name_end(text, at, mark)
    return end, ((text[at:end],) if text[at:end] > mark else None)


def walked(text, ways_on, about):
    """Return what was read if text is a possible line, otherwise None, and how far it is possible."""
    read = None
    column = 0
    todo = [("start", (), 0)]
    while todo:
        part, got, at = todo.pop()
        for way in ways_on(about, part, got):
            end, added = met(text, at, way)
            column = max(column, end)
            if added is None:
                continue
            if way[3] != "end":
                todo.append((way[3], got + added, end))
            elif end == len(text):
                read = got + added
    return read, column


def read_line(text, ways_on, about, line):
    """Return what was read of a line, or say how far it is possible."""
    read, column = walked(text, ways_on, about)
    if read is None:
        raise InvalidText(line, column)
    return read


def lines_in(text):
    """Return a list of the lines of a text; the empty string has none."""
    return text.split("\n") if text != "" else []
