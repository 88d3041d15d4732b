"""Views of a room: their form, and the needs of the room."""

from roomsback.kinds import is_ascending, is_names

# How a make uses the room; it takes it or reads it, and not both.
USES = ("made", "makes", "reads")
WORDS = ("made", "makes", "reads", "turns")


def starts_of(size):
    """Return the start views, ascending."""
    return (((), True, False, ()), *[((name,), False, True, ()) for name in size[0]])


def is_open_entry(entry):
    """Tell whether an entry is that of an open guess."""
    return len(entry) == 2 and entry[0] == "guess"


def is_entry(thing):
    """Tell whether any value is an entry of a view of some size."""
    if not isinstance(thing, tuple):
        return False
    if len(thing) == 2 and isinstance(thing[0], str) and thing[0] == "guess":
        return is_names(thing[1])
    if not all([isinstance(word, str) and word in WORDS for word in thing]):
        return False
    return is_ascending(thing) and len([word for word in thing if word in USES]) <= 1


def open_entries(entries):
    """Return how many of these entries are those of open guesses."""
    return len([entry for entry in entries if is_open_entry(entry)])


def is_any_view(thing):
    """Tell whether any value is a view of some size, by form."""
    if not isinstance(thing, tuple) or len(thing) != 4:
        return False
    names, is_free, is_filled, entries = thing
    if not is_names(names) or not isinstance(is_free, bool) or not isinstance(is_filled, bool):
        return False
    return isinstance(entries, tuple) and all([is_entry(entry) for entry in entries])


def names_in(view):
    """Return a list of all names that stand in a view."""
    names, _, _, entries = view
    return [*names, *[name for entry in entries if is_open_entry(entry) for name in entry[1]]]


def is_view_of(size, thing):
    """Tell whether any value is a view of the size, by form."""
    if not is_any_view(thing) or not all([name in size[0] for name in names_in(thing)]):
        return False
    entries = thing[3]
    return len(entries) <= size[1] and open_entries(entries) <= size[2]


def needs_seen(view):
    """Return the set of the needs of the room in a view."""
    names, _, _, entries = view
    needs = []
    if any(["makes" in entry for entry in entries]):
        needs.append("maker")
    if len(names) > 0:
        needs.append("name")
    if any([is_open_entry(entry) and len(entry[1]) > 0 for entry in entries]):
        needs.append("picture")
    if any(["reads" in entry for entry in entries]):
        needs.append("reader")
    return tuple(needs)
