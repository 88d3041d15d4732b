"""Views of a room: their form, and the needs of the room."""

from roomsback.kinds import is_ascending, is_names

# How a make uses the room; it takes it or reads it, and not both.
USES = ("made", "makes", "reads")
WORDS = ("made", "makes", "reads", "turns")


def starts_of(size):
    """Return the start views, ascending."""
    return (((), True, False, ()), *[((name,), False, True, ()) for name in size[0]])


def are_names_of(size, thing):
    """Tell whether any value is a set of names of the size."""
    return is_names(thing) and all([name in size[0] for name in thing])


def is_open_entry(entry):
    """Tell whether an entry is that of an open guess."""
    return len(entry) == 2 and entry[0] == "guess"


def is_entry_of(size, thing):
    """Tell whether any value is an entry of a view of the size."""
    if not isinstance(thing, tuple):
        return False
    if len(thing) == 2 and isinstance(thing[0], str) and thing[0] == "guess":
        return are_names_of(size, thing[1])
    if not all([isinstance(word, str) and word in WORDS for word in thing]):
        return False
    return is_ascending(thing) and len([word for word in thing if word in USES]) <= 1


def open_entries(entries):
    """Return how many of these entries are those of open guesses."""
    return len([entry for entry in entries if is_open_entry(entry)])


def is_view_of(size, thing):
    """Tell whether any value is a view of the size, by form."""
    if not isinstance(thing, tuple) or len(thing) != 4:
        return False
    names, is_free, is_filled, entries = thing
    if not are_names_of(size, names) or not isinstance(is_free, bool) or not isinstance(is_filled, bool):
        return False
    if not isinstance(entries, tuple) or not all([is_entry_of(size, entry) for entry in entries]):
        return False
    return len(entries) <= size[1] and open_entries(entries) <= size[2]


def needs_seen(view):
    """Return the set of the needs of the room in a view."""
    names, _, _, entries = view
    needs = []
    if any(["makes" in entry for entry in entries]):
        needs.append("maker")
    if len(names) > 0:
        needs.append("name")
    if any([is_open_entry(entry) and len(entry[1]) > 0 for entry in entries]):
        needs.append("picture")
    if any(["reads" in entry for entry in entries]):
        needs.append("reader")
    return tuple(needs)
