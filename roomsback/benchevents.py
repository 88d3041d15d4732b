"""The events of a bench."""

from roomsback.demands import demand
from roomsback.kinds import is_number, is_rule, is_size
from roomsback.moving import is_any_move, is_move_of


def is_bench_event(thing):
    """Tell whether any value is an event of each size: a rule from now on, or a further room."""
    if not isinstance(thing, tuple) or len(thing) == 0 or not isinstance(thing[0], str):
        return False
    return thing == ("room",) or len(thing) == 2 and thing[0] == "rule" and is_rule(thing[1])


def is_any_event(thing):
    """Tell whether any value is an event of some size."""
    return is_bench_event(thing) or is_any_move(thing)


def is_event_of(size, thing):
    """Tell whether any value is an event of this size, which is one."""
    return is_bench_event(thing) or is_move_of(size, thing)


def is_event(size, thing):
    """Tell whether any value is an event of the size: a move, a rule from now on, or a further room."""
    demand(is_size(size), "size")
    return is_event_of(size, thing)


def is_log_start(thing):
    """Tell whether any value is the first element of a log, perhaps with too few rooms."""
    if not isinstance(thing, tuple) or len(thing) != 4 or not isinstance(thing[0], str) or thing[0] != "bench":
        return False
    return is_size(thing[1]) and is_rule(thing[2]) and is_number(thing[3])


def is_any_log(thing):
    """Tell whether any value is a log, perhaps with too few rooms."""
    if not isinstance(thing, tuple) or len(thing) == 0 or not is_log_start(thing[0]):
        return False
    return all([is_event_of(thing[0][1], event) for event in thing[1:]])
