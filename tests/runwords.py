"""Drawn runs, and [8] once more: what the rooms hold, and a plain machine beside them."""

import random

from tests import machinewords

HASTY = (("turned", ()),)
FULL = tuple((moment, machinewords.NEEDS) for moment in machinewords.MOMENTS)


def first(size, rooms):
    """The stand at first."""
    leads = tuple(range(len(size[0])))
    return leads, tuple(range(len(size[0]), rooms)), leads, ()


def walk(size, rule, stand, moves):
    """The stands along any moves by form, as far as they are possible, by the words of the document."""
    stands = [stand]
    for move in moves:
        if not machinewords.possible(size, stands[-1], move):
            break
        stands.append(machinewords.behind(size, rule, stands[-1], move))
    return stands


def a_move(size, stand, ways, chance):
    """Some possible move, each word as likely, None if there is none."""
    found = [move for move in ways if machinewords.possible(size, stand, move)]
    if not found:
        return None
    word = chance.choice(sorted({move[0] for move in found}))
    return chance.choice([move for move in found if move[0] == word])


def a_run(size, rule, rooms, most, chance):
    """Some run of up to so many moves."""
    stand = first(size, rooms)
    ways = machinewords.moves(size, rooms)
    run = []
    for _ in range(chance.randrange(most + 1)):
        move = a_move(size, stand, ways, chance)
        if move is None:
            break
        run.append(move)
        stand = machinewords.behind(size, rule, stand, move)
    return tuple(run)


def some_runs(many, seed, most=40):
    """Quadruples of a size, a rule, a number of rooms, and a run."""
    chance = random.Random(seed)
    found = []
    for _ in range(many):
        size = chance.choice(machinewords.SIZES)
        rooms = min(9, len(size[0]) + chance.randrange(5))
        rule = chance.choice([(), HASTY, FULL, machinewords.a_rule(chance), machinewords.a_rule(chance)])
        found.append((size, rule, rooms, a_run(size, rule, rooms, most, chance)))
    return found


def changed(size, rooms, run, chance):
    """A tuple of moves by form that is the run with a move put in, left out, exchanged or changed."""
    ways = machinewords.moves(size, rooms)
    at = chance.randrange(len(run) + 1)
    way = chance.randrange(4)
    if way == 0 or not run:
        return run[:at] + (chance.choice(ways),) + run[at:]
    at = chance.randrange(len(run))
    other = chance.randrange(len(run))
    if way == 1:
        return run[:at] + run[at + 1:]
    moves = list(run)
    if way == 2:
        moves[at], moves[other] = moves[other], moves[at]
    else:
        moves[at] = chance.choice(ways)
    return tuple(moves)


class Reckoned:
    """A run, reckoned with lists of all steps; what is due is only looked for when all is known."""

    def __init__(self, size, run):
        self.names = size[0]
        self.steps = []
        self.flight = []
        self.leads = {name: k for k, name in enumerate(self.names)}
        self.held = {k: name for k, name in enumerate(self.names)}
        for move in run:
            getattr(self, move[0])(*move[1:])

    def enters(self, step, **more):
        self.flight.append(len(self.steps))
        self.steps.append({"step": step, "dropped": False, "left": False, "leads": dict(self.leads), **more})

    def take(self, step, room):
        self.enters(step, room=room, rooms=[self.leads[name] for name in step[2]], read=None)
        self.leads[step[1]] = room

    def enter(self, step):
        self.enters(step)
        if step[0] == "same":
            self.leads[step[1]] = self.leads[step[2]]

    def run(self, k):
        step = self.steps[self.flight[k]]
        step["read"] = tuple(self.held[room] for room in step["rooms"])
        self.held[step["room"]] = self.flight[k]

    def right(self, k):
        pass

    def wrong(self, k):
        self.leads = dict(self.steps[self.flight[k]]["leads"])
        for number in self.flight[k + 1:]:
            self.steps[number]["dropped"] = True
        del self.flight[k + 1:]

    def leave(self):
        self.steps[self.flight.pop(0)]["left"] = True

    def plain(self):
        """The cells of the plain machine behind all steps, and what each make was due to read."""
        cells = {name: name for name in self.names}
        due = {}
        for number, known in enumerate(self.steps):
            step = known["step"]
            if known["dropped"] or step[0] == "guess":
                continue
            if step[0] == "same":
                cells[step[1]] = cells[step[2]]
            else:
                due[number] = tuple(cells[name] for name in step[2])
                cells[step[1]] = number
        return tuple(cells[name] for name in self.names), due

    def triples(self):
        """The triples of the makes that left."""
        due = self.plain()[1]
        return tuple((number, known["read"], due[number]) for number, known in enumerate(self.steps)
                     if known["left"] and known["step"][0] == "make")

    def shows(self):
        return any(read != due for _, read, due in self.triples())
