"""The events of a bench."""

from roomsback.demands import demand
from roomsback.kinds import is_rule, is_size
from roomsback.moving import is_move_of


def is_event(size, thing):
    """Tell whether any value is an event of the size: a move, a rule from now on, or a further room."""
    demand(is_size(size), "size")
    if not isinstance(thing, tuple) or len(thing) == 0 or not isinstance(thing[0], str):
        return False
    if thing[0] == "rule":
        return len(thing) == 2 and is_rule(thing[1])
    return thing == ("room",) or is_move_of(size, thing)
