"""Reading the lines of moves."""

from roomsback.demands import demand
from roomsback.kinds import is_size
from roomsback.linewalks import by_number, by_word, lines_in, read_line
from roomsback.stepways import can_copy, inner_ways, step_of


def move_ways(size, part, got):
    """Return the ways on in the line of a move of the size."""
    if part == "start":
        ways = [by_word(f"{word} ", (word,), "number") for word in ("run", "right", "wrong")]
        ways = [*ways, by_word("leave", ("leave",), "end"), by_word("take make ", ("make",), "make")]
        if size[2] >= 1:
            ways.append(by_word("enter guess", ("guess",), "end"))
        if can_copy(size):
            ways.append(by_word("enter same ", ("same",), "same"))
        return ways
    if part == "number":
        return [by_number(0, "end")]
    if part == "room":
        return [by_word(" in ", (), "number")]
    return inner_ways(size, part, got, "room")


def move_of(got):
    """Return the move of which these words and numbers were read."""
    if got[0] == "make":
        return "take", step_of(got[:-1]), got[-1]
    return ("enter", step_of(got)) if got[0] in ("same", "guess") else got


def move_read(size, text):
    """Return the move of the size that a string writes."""
    demand(is_size(size), "size")
    demand(isinstance(text, str), "text")
    return move_of(read_line(text, move_ways, size, 0))


def run_read(size, text):
    """Return the tuple of the moves of the size that the lines of a string write."""
    demand(is_size(size), "size")
    demand(isinstance(text, str), "text")
    return tuple([move_of(read_line(words, move_ways, size, line)) for line, words in enumerate(lines_in(text))])
