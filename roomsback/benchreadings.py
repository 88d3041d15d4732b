"""Reading the lines of the events and the logs of benches."""

from roomsback.demands import demand
from roomsback.errors import InvalidText
from roomsback.kinds import is_size
from roomsback.linewalks import by_number, by_word, read_line
from roomsback.movereadings import move_of, move_ways
from roomsback.rulereadings import clause_ways, size_of, size_ways

# A log begins with the lines of the size, the number of rooms, and the rule.
FIRST_LINES = 3


def rule_line_ways(about, part, got):
    """Return the ways on in the line of a rule; got has the word rule, and the clauses so far."""
    if part == "start":
        return [by_word("rule ", ("rule",), "rule")]
    if part == "behind":
        ways = [by_word("", (), "end")]
        if len(clauses_behind(got)) > 0:
            ways.append(by_word("; ", (), "clause"))
        return ways
    ways = clauses_behind(got)
    return [*ways, by_word("-", (), "end")] if part == "rule" else ways


def clauses_behind(got):
    """Return the ways over a clause that is greater than the last one of what was read, if there is one."""
    above = got[-1] if len(got) > 1 else None
    return [by_word(mark, (clause,), "behind") for _, mark, clause, _ in clause_ways(above, "start", ())]


def event_ways(size, part, got):
    """Return the ways on in the line of an event of the size."""
    if part == "start":
        ways = [*move_ways(size, part, got), *rule_line_ways(size, part, got)]
        return [*ways, by_word("room", ("room",), "end")]
    if got[0] == "rule":
        return rule_line_ways(size, part, got)
    return move_ways(size, part, got)


def event_of(got):
    """Return the event of which these words were read."""
    if got[0] == "rule":
        return "rule", got[1:]
    return got if got[0] == "room" else move_of(got)


def read_event(size, text):
    """Return the event of the size that a string writes."""
    demand(is_size(size), "size")
    demand(isinstance(text, str), "text")
    return event_of(read_line(text, event_ways, size, 0))


def bench_ways(about, part, got):
    """Return the ways on in the first line of a log."""
    if part == "start":
        return [by_word("bench ", (), "size")]
    return size_ways(about, "start" if part == "size" else part, got)


def room_ways(about, part, got):
    """Return the ways on in the second line of a log."""
    return [by_word("rooms ", (), "number")] if part == "start" else [by_number(0, "end")]


def are_lines(thing):
    """Tell whether any value is a list of strings without newlines."""
    return isinstance(thing, list) and all([isinstance(line, str) and "\n" not in line for line in thing])


def first_line(lines, k, ways_on):
    """Return what was read of line k, with which a log must go on."""
    if k == len(lines):
        raise InvalidText(k, 0)
    return read_line(lines[k], ways_on, None, k)


def read_log(lines):
    """Return the log that a list of strings writes."""
    demand(are_lines(lines), "lines")
    size = size_of(first_line(lines, 0, bench_ways))
    rooms = first_line(lines, 1, room_ways)[0]
    rule = first_line(lines, 2, rule_line_ways)[1:]
    events = [event_of(read_line(lines[k], event_ways, size, k)) for k in range(FIRST_LINES, len(lines))]
    return (("bench", size, rule, rooms), *events)
