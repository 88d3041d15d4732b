"""[60] to [66] once more: a bench kept as notes of its events, with the machines of the other words."""

from tests import latewords, machinewords, runwords
from tests.test_kinds import CLAUSES
from tests.test_movereadings import line_of

MOST, ROOMS = 40, 9


def is_number(thing):
    return thing.__class__ is int and thing >= 0


def is_event(size, thing):
    """[60]: whether any value is an event of the size."""
    if thing.__class__ is not tuple or not thing or thing[0].__class__ is not str:
        return False
    steps = list(map(repr, machinewords.steps(size)))
    word, *rest = thing
    if word in ("leave", "room"):
        return not rest
    if word == "rule" and len(rest) == 1:
        rule = rest[0]
        clauses = [*map(repr, CLAUSES)]
        return (rule.__class__ is tuple and all(repr(clause) in clauses for clause in rule)
                and list(rule) == sorted({*rule}))
    if word in ("run", "right", "wrong"):
        return len(rest) == 1 and is_number(rest[0])
    if word == "enter":
        return len(rest) == 1 and repr(rest[0]) in steps and rest[0][0] != "make"
    return (word == "take" and len(rest) == 2 and repr(rest[0]) in steps and rest[0][0] == "make"
            and is_number(rest[1]))


def line(event):
    """[70]: the line of an event."""
    if event == ("room",):
        return "room"
    if event[0] == "rule":
        return "rule " + ("; ".join(" ".join([moment, *["unless"] * bool(tests), *tests]) for moment, tests in event[1]) or "-")
    return line_of(event)


class Notes:
    """All events, with the stand, the rule and the number of rooms behind each."""

    def __init__(self, size, rule, rooms):
        self.size = size
        self.past = [dict(event=None, rule=rule, rooms=rooms, stand=runwords.first(size, rooms), answer=(), hands=False)]
        self.calls = 0
        self.verdicts = {}

    def now(self, word):
        return self.past[-1][word]

    def reason(self, event):
        """[62]: the first reason why an event is not possible, or None."""
        if not is_event(self.size, event):
            return "shape"
        if len(self.past) - 1 >= MOST:
            return "full"
        if event[0] == "rule":
            return "same" if event[1] == self.now("rule") else None
        if event == ("room",):
            return "rooms" if self.now("rooms") >= ROOMS else None
        return None if machinewords.possible(self.size, self.now("stand"), event) else "move"

    def add(self, event):
        """A possible event; returns the answer."""
        last = self.past[-1]
        new = dict(last, event=event, answer=(), hands=False)
        leads, free, filled, flight = stand = last["stand"]
        if event[0] == "rule":
            new["rule"] = event[1]
        elif event == ("room",):
            new.update(rooms=last["rooms"] + 1, stand=(leads, free + (last["rooms"],), filled, flight))
        else:
            new["stand"] = machinewords.behind(self.size, last["rule"], stand, event)
        if event[0] == "take":
            others = [name for name, lead in zip(self.size[0], leads) if lead == event[2] and name != event[1][1]]
            new["hands"] = bool(others or {*machinewords.needs(self.size, stand, event[2])} - {"name"})
        new["answer"] = tuple(sorted({*new["stand"][1]} - {*free}))
        self.past.append(new)
        return new["answer"]

    def events(self):
        return tuple(note["event"] for note in self.past[1:])

    def moves(self):
        return tuple(event for event in self.events() if event[0] not in ("rule", "room"))

    def log(self):
        return (("bench", self.size, self.past[0]["rule"], self.past[0]["rooms"]), *self.events())

    def verdict(self):
        rule = self.now("rule")
        if rule not in self.verdicts:
            self.verdicts[rule] = latewords.judged(self.size, rule)
        return self.verdicts[rule]

    def state(self):
        """All that is told, but for counts and the verdict."""
        size, rooms, stand = self.size, self.now("rooms"), self.now("stand")
        known = runwords.Reckoned(size, self.moves())
        needs = {room: machinewords.needs(size, stand, room) for room in range(rooms)}
        rows = []
        for room in range(rooms):
            names = [name for name, lead in zip(size[0], stand[0]) if lead == room]
            rows.append(f"{room:2} {'free' if room in stand[1] else 'held'} {'filled' if room in stand[2] else 'empty ':6} "
                        f"{','.join(names) or '-':8} {','.join(needs[room]) or '-'}")
        return dict(
            size=size, rule=self.now("rule"), rooms=rooms, stand=stand, moves=self.moves(),
            hands=tuple(k for k, note in enumerate(self.past[1:]) if note["hands"]), shows=known.shows(),
            late=tuple(room for room in range(rooms) if room not in stand[1] and not needs[room]),
            results=known.triples(), cells=dict(zip(size[0], known.plain()[0])),
            alarms=[(room, needs[room]) for room in stand[1] if needs[room]], table=rows,
            given=[note["answer"] for note in self.past[1:]], leads=list(stand[0]), free=list(stand[1]), names=list(size[0]),
            many=len(self.past) - 1, lines=" / ".join(map(line, self.events())) or "-", log=self.log())


def told(bench):
    """All that a bench tells, in the same words."""
    return dict(
        size=bench.size_now, rule=bench.rule_now, rooms=bench.rooms_now, stand=bench.stand_now, moves=bench.moves_now,
        hands=bench.hands_now, shows=bench.shows_now, late=bench.late_now, results=bench.results(), cells=bench.cells(),
        alarms=list(bench.alarms()), table=bench.table(), given=[bench.given(k) for k in range(len(bench))],
        leads=[bench[name] for name in bench.size_now[0]], free=[room for room in range(12) if room in bench],
        names=list(bench), many=len(bench), lines=str(bench), log=bench.log())


def an_event(notes, chance):
    """An event that is often possible, and often not."""
    move = runwords.a_move(notes.size, notes.now("stand"), machinewords.moves(notes.size, notes.now("rooms")), chance)
    way = chance.randrange(12)
    if way == 0:
        return ("rule", chance.choice([(), runwords.FULL, runwords.HASTY, machinewords.a_rule(chance), notes.now("rule")]))
    if way == 1:
        return ("room",)
    if way == 2 or move is None:
        return chance.choice(machinewords.moves(notes.size, notes.now("rooms") + 1))
    return move
