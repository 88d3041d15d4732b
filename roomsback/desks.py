"""A desk, which leads a bench by rows of text."""

from roomsback.benches import Bench
from roomsback.benchreadings import FIRST_LINES, read_event, read_log
from roomsback.benchtexts import event_line
from roomsback.errors import InvalidRow, InvalidText


def spaced(things):
    """Return things with single spaces between, - if there are none."""
    return " ".join([str(thing) for thing in things]) if len(things) > 0 else "-"


def say_events(bench):
    """Return how many events there are."""
    return str(len(bench))


def say_log(bench):
    """Return the lines of the events."""
    return str(bench)


def say_rule(bench):
    """Return the line of the rule."""
    return event_line(("rule", bench.rule_now))


def say_rooms(bench):
    """Return the number of rooms."""
    return str(bench.rooms_now)


def say_free(bench):
    """Return the free rooms."""
    return spaced(bench.stand_now[1])


def say_late(bench):
    """Return the rooms that are late."""
    return spaced(bench.late_now)


def say_hands(bench):
    """Return the indexes of the takes in two hands."""
    return spaced(bench.hands_now)


def say_leads(bench):
    """Return each name with the room to which it leads."""
    return spaced([f"{name}@{bench[name]}" for name in bench])


def say_cells(bench):
    """Return each name with the result in its cell."""
    return spaced([f"{name}@{result}" for name, result in bench.cells().items()])


def say_shows(bench):
    """Return whether something else was read than was due."""
    return "yes" if bench.shows_now else "no"


def say_verdict(bench):
    """Return what the rule is for the size."""
    return bench.verdict()


def say_alarms(bench):
    """Return each room that is free and has needs, with these."""
    pairs = list(bench.alarms())
    return spaced([f"{room}@{'+'.join(needs)}" for room, needs in pairs])


def say_table(bench):
    """Return the rows of all rooms."""
    return " / ".join(bench.table())


def say_undo(bench):
    """Take back the last event, and return its line."""
    return event_line(bench.undo())


ANSWERS = {
    "events": say_events, "log": say_log, "rule": say_rule, "rooms": say_rooms, "free": say_free, "late": say_late,
    "hands": say_hands, "leads": say_leads, "cells": say_cells, "shows": say_shows, "verdict": say_verdict,
    "alarms": say_alarms, "table": say_table, "undo": say_undo,
}
BARS = "bars "


def log_in(row):
    """Return the log of which a string has the first lines and no others, None if it is none."""
    lines = row.split("\n")
    if len(lines) != FIRST_LINES:
        return None
    try:
        return read_log(lines)
    except InvalidText:
        return None


def event_in(bench, line):
    """Return the event of a bench that a string writes, None if it is none."""
    try:
        return read_event(bench.size_now, line)
    except InvalidText:
        return None


def barred_answer(bench, line):
    """Return the reason why the event of a line is not possible, None if it is no line of an event."""
    event = event_in(bench, line)
    if event is None:
        return None
    reason = bench.barred(event)
    return "-" if reason is None else reason


def answer_of(bench, row):
    """Return the answer of a bench to a string, None if this is no row for a bench."""
    if row in ANSWERS:
        action = ANSWERS[row]
        return action(bench)
    if row.startswith(BARS):
        return barred_answer(bench, row[len(BARS):])
    event = event_in(bench, row)
    return None if event is None else spaced(bench.go(event))


class Desk:
    """A bench that is led by rows of text; at first there is none."""

    def __init__(self):
        self._bench = None
        self._started = 0
        self._finished = 0

    def answered(self, row):
        """Return the answer to any value; this is not counted."""
        if not isinstance(row, str):
            raise InvalidRow(row)
        log = log_in(row)
        if log is not None:
            _, size, rule, rooms = log[0]
            self._bench = Bench(size, rule, rooms)
            return "ok"
        if self._bench is None:
            raise InvalidRow(row)
        answer = answer_of(self._bench, row)
        if answer is None:
            raise InvalidRow(row)
        return answer

    def say(self, row):
        """Return the answer to a row."""
        number = self._started + 1
        self._started = number
        try:
            return self.answered(row)
        finally:
            self._finished = number

    def counts(self):
        """Return the numbers of started and of finished calls of say."""
        return self._started, self._finished
