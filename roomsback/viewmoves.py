"""The form of the moves of views."""

from roomsback.kinds import is_any_step, is_number


def is_seen_step(word, step):
    """Tell whether a step of some size can be that of a move of views with this word."""
    if word == "take":
        return step[0] == "make" and len(step[2]) == 0
    return step[0] != "make" or len(step[2]) <= 1


def is_any_view_move(thing):
    """Tell whether any value is a move of views of some size, by form."""
    if not isinstance(thing, tuple) or len(thing) == 0 or not isinstance(thing[0], str):
        return False
    if thing == ("leave",):
        return True
    if len(thing) != 2:
        return False
    word, about = thing
    if word in ("run", "right", "wrong"):
        return is_number(about)
    return word in ("take", "enter") and is_any_step(about) and is_seen_step(word, about)
