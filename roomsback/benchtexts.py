"""The lines of events and of logs."""

from roomsback.benchevents import is_any_event, is_any_log
from roomsback.demands import demand
from roomsback.movetexts import move_text
from roomsback.ruletexts import clause_line, size_text


def rule_line(rule):
    """Return the line of a rule."""
    clauses = "; ".join([clause_line(clause) for clause in rule]) if len(rule) > 0 else "-"
    return f"rule {clauses}"


def event_line(event):
    """Return the line of an event."""
    demand(is_any_event(event), "event")
    if event[0] == "rule":
        return rule_line(event[1])
    return "room" if event[0] == "room" else move_text(event)


def log_lines(log):
    """Return a list of the lines of a log."""
    demand(is_any_log(log), "log")
    _, size, rule, rooms = log[0]
    first = [f"bench {size_text(size)}", f"rooms {rooms}", rule_line(rule)]
    return [*first, *[event_line(event) for event in log[1:]]]
