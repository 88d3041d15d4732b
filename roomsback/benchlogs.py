"""Logs of benches."""

from roomsback.benches import Bench
from roomsback.benchevents import is_any_log
from roomsback.demands import demand


def is_log(thing):
    """Tell whether any value is a log of which a bench can be made, with events that may be possible or not."""
    return is_any_log(thing) and thing[0][3] >= len(thing[0][1][0])


def replayed(log):
    """Return a new bench behind the events of a log."""
    demand(is_log(log), "log")
    first, *events = log
    _, size, rule, rooms = first
    bench = Bench(size, rule, rooms)
    for event in events:
        bench.apply(event)
    return bench
