"""How the line of a step goes on, also inside the line of a move."""

from roomsback.linewalks import by_word


def can_copy(size):
    """Tell whether a size has a same."""
    return size[3] and len(size[0]) >= 2


def source_ways(names, got):
    """Return the ways to a further source, behind what was read: "make", a name, sources."""
    some = len(got) > 2
    return [by_word(f" {name}", (name,), "sources") for name in names if not some or name > got[-1]]


def inner_ways(size, part, got, behind):
    """Return the ways on behind the first word of a step; behind is the part behind a make."""
    names = size[0]
    if part == "make":
        return [by_word(name, (name,), "made") for name in names]
    if part == "made":
        return [by_word("", (), behind), by_word(" of", (), "of")]
    if part == "of":
        return source_ways(names, got)
    if part == "sources":
        return [by_word("", (), behind), *source_ways(names, got)]
    if part == "same":
        return [by_word(name, (name,), "other") for name in names]
    return [by_word(f" {name}", (name,), "end") for name in names if name != got[-1]]


def step_ways(size, part, got):
    """Return the ways on in the line of a step of the size."""
    if part != "start":
        return inner_ways(size, part, got, "end")
    ways = [by_word("make ", ("make",), "make")]
    if size[2] >= 1:
        ways.append(by_word("guess", ("guess",), "end"))
    if can_copy(size):
        ways.append(by_word("same ", ("same",), "same"))
    return ways


def step_of(got):
    """Return the step of which these words were read."""
    return ("make", got[1], got[2:]) if got[0] == "make" else got
