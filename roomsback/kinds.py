"""Which values are names, rooms, needs, clauses, rules, sizes and steps."""

from roomsback.demands import demand

LETTERS = "abcdefghijklmnopqrstuvwxyz"
LONGEST_NAME = 8
NEEDS = ("maker", "name", "picture", "reader")
MOMENTS = ("gone", "left", "made", "read", "right", "turned")


def is_number(thing):
    """Tell whether any value is an integer that is at least 0."""
    # True and False are ints for Python, but no integers here.
    return isinstance(thing, int) and not isinstance(thing, bool) and thing >= 0


def is_room(thing):
    """Tell whether any value is a room."""
    return is_number(thing)


def is_ascending(things):
    """Tell whether each of these comparable things is greater than the one ahead."""
    return all([things[k] < things[k + 1] for k in range(len(things) - 1)])


def is_name(thing):
    """Tell whether any value is a name."""
    if not isinstance(thing, str):
        return False
    return 1 <= len(thing) <= LONGEST_NAME and all([sign in LETTERS for sign in thing])


def is_names(thing):
    """Tell whether any value is a set of names."""
    if not isinstance(thing, tuple):
        return False
    return all([is_name(name) for name in thing]) and is_ascending(thing)


def is_need(thing):
    """Tell whether any value is a need."""
    return isinstance(thing, str) and thing in NEEDS


def is_moment(thing):
    """Tell whether any value is a moment."""
    return isinstance(thing, str) and thing in MOMENTS


def is_needs(thing):
    """Tell whether any value is a set of needs."""
    if not isinstance(thing, tuple):
        return False
    return all([is_need(need) for need in thing]) and is_ascending(thing)


def is_moments(thing):
    """Tell whether any value is a set of moments."""
    if not isinstance(thing, tuple):
        return False
    return all([is_moment(moment) for moment in thing]) and is_ascending(thing)


def is_clause(thing):
    """Tell whether any value is a clause."""
    if not isinstance(thing, tuple) or len(thing) != 2:
        return False
    return is_moment(thing[0]) and is_needs(thing[1])


def is_rule(thing):
    """Tell whether any value is a rule."""
    if not isinstance(thing, tuple):
        return False
    return all([is_clause(clause) for clause in thing]) and is_ascending(thing)


def is_size(thing):
    """Tell whether any value is a size."""
    if not isinstance(thing, tuple) or len(thing) != 4:
        return False
    names, places, guesses, copies = thing
    if not is_names(names) or len(names) == 0:
        return False
    return is_number(places) and places >= 1 and is_number(guesses) and isinstance(copies, bool)


def is_any_step(thing):
    """Tell whether any value is a step of some size."""
    if not isinstance(thing, tuple) or len(thing) not in (1, 3) or not isinstance(thing[0], str):
        return False
    if len(thing) == 1:
        return thing[0] == "guess"
    word, name, source = thing
    if word == "make":
        return is_name(name) and is_names(source)
    return word == "same" and is_name(name) and is_name(source) and name != source


def is_step_of(size, thing):
    """Tell whether any value is a step of this size, which is one."""
    if not is_any_step(thing):
        return False
    names, _, guesses, copies = size
    if thing[0] == "guess":
        return guesses >= 1
    if thing[0] == "same":
        return copies and thing[1] in names and thing[2] in names
    return thing[1] in names and len(set(thing[2]) - set(names)) == 0


def is_step(size, thing):
    """Tell whether any value is a step of the size."""
    demand(is_size(size), "size")
    return is_step_of(size, thing)
