"""The steps of a size, and what they read and write."""

from roomsback.demands import demand
from roomsback.kinds import is_any_step, is_size


def next_picks(picks, many):
    """Return the ascending indexes below many that follow these, None behind the last ones."""
    at = len(picks) - 1
    while at >= 0 and picks[at] == many - len(picks) + at:
        at = at - 1
    if at < 0:
        return None
    first = picks[at] + 1
    return picks[:at] + list(range(first, first + len(picks) - at))


def subsets_of(names):
    """Yield the sets of these names, by how many they have, and then ascending."""
    # There may be far too many of them to keep them in a list.
    for many in range(len(names) + 1):
        picks = list(range(many))
        while picks is not None:
            yield tuple([names[k] for k in picks])
            picks = next_picks(picks, len(names))


def makes_of(names):
    """Yield the makes with these names, in the order of steps_of."""
    for name in names:
        for sources in subsets_of(names):
            yield ("make", name, sources)


def sames_of(size):
    """Return a list of the sames of the size, in the order of steps_of."""
    names, _, _, copies = size
    if not copies:
        return []
    return [("same", name, other) for name in names for other in names if name != other]


def steps_of(size):
    """Yield all steps of the size."""
    demand(is_size(size), "size")
    names, _, guesses, _ = size
    if guesses >= 1:
        yield ("guess",)
    yield from makes_of(names)
    yield from sames_of(size)


def sources_of(step):
    """Return the sources of a make, () for other steps."""
    demand(is_any_step(step), "step")
    return step[2] if step[0] == "make" else ()


def written_by(step):
    """Return the name that a step leads to a room, None for a guess."""
    demand(is_any_step(step), "step")
    return None if step[0] == "guess" else step[1]
