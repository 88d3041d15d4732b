"""A bench: a machine that is led by a rule and with rooms that can change, beside the plain one."""

from roomsback.benchrecords import first_record, log_of, reason_against, record_behind
from roomsback.benchtexts import event_line
from roomsback.demands import demand
from roomsback.errors import Broken, InvalidEvent, NothingToUndo
from roomsback.kinds import is_number, is_room
from roomsback.ledgers import shows_in
from roomsback.movetexts import stand_rows
from roomsback.moving import needs_here
from roomsback.verdicts import verdict_on
from roomsback.walking import demand_machine


class KeptPast:
    """The past of a bench ahead of a trial; before is what the trial kept already."""

    def __init__(self, past, before):
        self.past = past
        self.before = before


class BenchTrial:
    """What is done with a bench within a with statement is undone at its end."""

    def __init__(self, bench):
        self.bench = bench
        self.kept = None

    def __enter__(self):
        # The same trial may be entered again within itself, so what it kept before must stay.
        self.kept = KeptPast(self.bench._past, self.kept)
        return self.bench

    def __exit__(self, *told):
        self.bench._past = self.kept.past
        self.kept = self.kept.before


class Bench:
    """A machine that is led event by event, and how it came to where it is."""

    MOST = 40
    ROOMS = 9

    def __init__(self, size, rule, rooms):
        demand_machine(size, rule, rooms)
        self._size = size
        self._names = size[0]
        # The records behind each event, the first one ahead of all. The tuple is never changed but always
        # made anew, so to take something back it is enough to have kept it.
        self._past = (first_record(size, rule, rooms),)
        self._started = 0
        self._finished = 0

    @property
    def size_now(self):
        """The size."""
        return self._size

    @property
    def rooms_now(self):
        """The number of rooms."""
        return self._past[-1].rooms

    @property
    def stand_now(self):
        """The stand behind the events."""
        return self._past[-1].stand

    @property
    def moves_now(self):
        """The tuple of the moves that were done."""
        return tuple([record.event for record in self._past[1:] if record.event[0] not in ("rule", "room")])

    @property
    def hands_now(self):
        """The tuple of the indexes of the events that were takes in two hands."""
        return tuple([k for k, record in enumerate(self._past[1:]) if record.is_hands])

    @property
    def shows_now(self):
        """Whether a make left that had read something else than it was due to read."""
        return shows_in(self._past[-1].ledger)

    @property
    def late_now(self):
        """The set of the rooms that are not free and have no need."""
        last = self._past[-1]
        held = [room for room in range(last.rooms) if room not in last.stand[1]]
        return tuple([room for room in held if len(needs_here(last.stand, room)) == 0])

    @property
    def rule_now(self):
        """The rule by which the next moves are done."""
        return self._past[-1].rule

    @rule_now.setter
    def rule_now(self, value):
        self.operate(("rule", value))

    def results(self):
        """Return the triples of the makes that left: the result, what was read, and what was due to be read."""
        return self._past[-1].ledger[4]

    def cells(self):
        """Return a dict from the names to the results in the cells of the plain machine."""
        return dict(zip(self._names, self._past[-1].ledger[2]))

    def alarms(self):
        """Yield the pairs of a room that is free and has needs, and these."""
        stand = self.stand_now
        for room in stand[1]:
            needs = needs_here(stand, room)
            if len(needs) > 0:
                yield room, needs

    def table(self):
        """Return a list of the rows of all rooms."""
        return stand_rows(self._size, self.rooms_now, self.stand_now)

    def given(self, k):
        """Return the answer to event k."""
        demand(is_number(k) and k < len(self), "k")
        return self._past[k + 1].answer

    def verdict(self):
        """Return "hands" if the rule is not safe, "loses" if it is and loses a room, otherwise "good"."""
        return verdict_on(self._size, self.rule_now)

    def past_behind(self, past, event):
        """Return the records behind these and a further event, which may be any value."""
        reason = reason_against(self._size, past, event, Bench.MOST, Bench.ROOMS)
        if reason is not None:
            raise InvalidEvent(event, reason)
        return (*past, record_behind(self._size, past[-1], event))

    def apply(self, event):
        """Apply an event, which may be any value, and return its answer; this is not counted."""
        self._past = self.past_behind(self._past, event)
        return self._past[-1].answer

    def operate(self, event):
        """Apply an event, which may be any value, and return its answer; this is counted."""
        number = self._started + 1
        self._started = number
        try:
            return self.apply(event)
        finally:
            self._finished = number

    def go(self, event):
        """Apply an event, and return its answer."""
        return self.operate(event)

    def set_rule(self, rule):
        """Let this be the rule from now on."""
        return self.operate(("rule", rule))

    def add_room(self):
        """Let there be a room more."""
        return self.operate(("room",))

    def __iadd__(self, other):
        self.operate(other)
        return self

    def barred(self, event):
        """Return the reason why any value is not possible as an event, None if it is."""
        return reason_against(self._size, self._past, event, Bench.MOST, Bench.ROOMS)

    def tried(self, *events):
        """Return the stand behind these events, and apply none of them."""
        past = self._past
        for event in events:
            past = self.past_behind(past, event)
        return past[-1].stand

    def undo(self):
        """Take back the last event, and return it."""
        number = self._started + 1
        self._started = number
        try:
            if len(self._past) == 1:
                raise NothingToUndo(0)
            event = self._past[-1].event
            self._past = self._past[:-1]
            return event
        finally:
            self._finished = number

    def apply_all(self, events, keep):
        """Apply these events as do_all does; this is not counted."""
        demand(isinstance(keep, bool), "keep")
        before = self._past
        for k, event in enumerate(events):
            try:
                self.apply(event)
            except InvalidEvent as refused:
                if not keep:
                    self._past = before
                raise Broken(k) from refused
        return len(events)

    def do_all(self, *events, keep=False):
        """Apply these events, and return how many they are; if one is not possible, none unless keep is True."""
        number = self._started + 1
        self._started = number
        try:
            return self.apply_all(events, keep)
        finally:
            self._finished = number

    def trial(self):
        """Return what undoes, at the end of a with statement, what is done within it."""
        return BenchTrial(self)

    def counts(self):
        """Return the numbers of started and of finished operations."""
        return self._started, self._finished

    def log(self):
        """Return what was at the beginning, and the events that were not taken back."""
        return log_of(self._size, self._past)

    def __getitem__(self, at):
        demand(at in self._names, "name")
        return self.stand_now[0][self._names.index(at)]

    def __contains__(self, x):
        return is_room(x) and x in self.stand_now[1]

    def __iter__(self):
        return iter(self._names)

    def __len__(self):
        return len(self._past[1:])

    def __eq__(self, other):
        return isinstance(other, Bench) and log_of(self._size, self._past) == log_of(other._size, other._past)

    def __str__(self):
        lines = [event_line(record.event) for record in self._past[1:]]
        return str(" / ".join(lines) if len(lines) > 0 else "-")
