"""[9] once more, by machines: a view is made a stand in which room 0 is seen so, and what happens there is seen again."""

import random

from tests import machinewords, runwords

ROOM, SPARE, OTHER = 0, 50, 100


def starts(size):
    return [((), True, False, ())] + [((name,), False, True, ()) for name in size[0]]


def stand_of(size, view):
    """A stand in which room 0 is seen like this, and room 50 is free; other rooms do not matter."""
    names, is_free, is_filled, entries = view
    leads = tuple(ROOM if name in names else OTHER + k for k, name in enumerate(size[0]))
    flight = []
    for k, entry in enumerate(entries):
        if len(entry) == 2 and entry[0] == "guess":
            picture = tuple(ROOM if name in entry[1] else OTHER + m for m, name in enumerate(size[0]))
            flight.append(("guess", picture))
        elif entry == ():
            flight.append(("guess", None))
        else:
            took = ROOM if "made" in entry or "makes" in entry else 2 * OTHER + k
            turned = ROOM if "turns" in entry else 3 * OTHER + k
            read = (ROOM,) if "reads" in entry else ()
            flight.append(("make", took, read, turned, "makes" not in entry and "reads" not in entry))
    return leads, ((ROOM,) if is_free else ()) + (SPARE,), (ROOM,) if is_filled else (), tuple(flight)


def view_at(size, stand, room):
    """[9]: the view of a room in a stand."""
    leads, free, filled, flight = stand
    entries = []
    for k in machinewords.touching(stand, room):
        entry = flight[k]
        if entry[0] == "guess":
            picture = () if entry[1] is None else entry[1]
            names = tuple(name for name, lead in zip(size[0], picture) if lead == room)
            entries.append(() if entry[1] is None else ("guess", names))
            continue
        words = {"turns"} if entry[-2 if entry[0] == "make" else 2] == room else set()
        if entry[0] == "make" and entry[1] == room:
            words.add("made" if entry[4] else "makes")
        if entry[0] == "make" and room in entry[2] and not entry[4]:
            words.add("reads")
        entries.append(tuple(sorted(words)))
    names = tuple(name for name, lead in zip(size[0], leads) if lead == room)
    return names, room in free, room in filled, tuple(entries)


def every_move(size):
    """The moves of views that are possible somewhere, in the order of [35]."""
    found = [("leave",)] + [(word, k) for word in ("run", "right", "wrong") for k in range(size[1])]
    steps = machinewords.steps(size)
    found += [("enter", step) for step in steps if step[0] != "make" or len(step[2]) <= 1]
    return found + [("take", step) for step in steps if step[0] == "make" and step[2] == ()]


def on_a_stand(move):
    """The move of a machine that room 0 sees so."""
    if move[0] == "take":
        return "take", move[1], ROOM
    return ("take", move[1], SPARE) if move[0] == "enter" and move[1][0] == "make" else move


def is_move(size, view, move):
    """[9]: whether a move of views is possible."""
    names = view[0]
    if move[0] == "enter" and move[1][0] == "make":
        touches = move[1][2][0] in names if move[1][2] else move[1][1] in names
    else:
        touches = move[0] != "enter" or move[1] == ("guess",) or bool({*move[1][1:]} & set(names))
    # A make that did not take the room, and does not read it, is not seen to run; on the stand it has run.
    return touches and machinewords.possible(size, stand_of(size, view), on_a_stand(move))


def moves(size, view):
    return [move for move in every_move(size) if is_move(size, view, move)]


def behind(size, rule, view, move):
    """[9]: the view behind a possible move."""
    return view_at(size, machinewords.behind(size, rule, stand_of(size, view), on_a_stand(move)), ROOM)


def in_hands(size, view, move):
    """[9]: whether a possible move is a take in two hands."""
    if move[0] != "take":
        return False
    leads, free, filled, flight = machinewords.change(size, stand_of(size, view), on_a_stand(move))[0]
    leads = tuple(OTHER if name == move[1][1] else lead for name, lead in zip(size[0], leads))
    return machinewords.needs(size, (leads, free, filled, flight[:-1]), ROOM) != ()


def search(size, rule, is_goal=lambda view, move, after: False):
    """All views to which paths without two hands lead, with their distance, and the fewest moves to a goal."""
    far = {view: 0 for view in starts(size)}
    level = list(far)
    least = None
    while level:
        further = []
        for view in level:
            for move in moves(size, view):
                after = behind(size, rule, view, move)
                if least is None and is_goal(view, move, after):
                    least = far[view] + 1
                if not in_hands(size, view, move) and after not in far:
                    far[after] = far[view] + 1
                    further.append(after)
        level = further
    return far, least


def judge(size, rule):
    """All views without two hands, and the fewest moves to them, None if there is none."""
    return search(size, rule, lambda view, move, after: in_hands(size, view, move))


def walk(size, rule, start, path_moves):
    """The views along the moves of a path, which are all possible."""
    views = [start]
    for move in path_moves:
        assert is_move(size, views[-1], move), move
        views.append(behind(size, rule, views[-1], move))
    return views


SMALL = [(("a",), 1, 0, False), (("a",), 2, 1, True), (("a",), 3, 2, False), (("a", "b"), 1, 1, True),
         (("a", "b"), 2, 0, False), (("x", "y"), 2, 1, True), (("a", "b"), 2, 2, True), (("a", "b", "c"), 1, 1, True)]
WIDE = [(("a", "b"), 3, 1, True), (("a", "b"), 3, 2, False), (("a", "b", "c"), 2, 1, True), (("a",), 4, 2, True)]


def some_rules(many, chance):
    """Rules, of which many are nearly safe: the full one, with clauses left out and tests left out or put in."""
    found = []
    for k in range(many):
        if k < 2 or k % 5 == 0:
            found.append([(), runwords.FULL][k % 2] if k < 2 else machinewords.a_rule(chance))
            continue
        clauses = set()
        for moment in machinewords.MOMENTS:
            tests = [need for need in machinewords.NEEDS if chance.random() < 0.75]
            if chance.random() < 0.6:
                clauses.add((moment, tuple(tests)))
        found.append(tuple(sorted(clauses)))
    return found


def path_fault(size, rule, thing):
    """[37]: the word and the place at which a pair of any value and a tuple of moves of views is no path, or None."""
    start, path_moves = thing
    if repr(start) not in map(repr, starts(size)):
        return "start", -1
    view = start
    for k, move in enumerate(path_moves):
        if move not in every_move(size) or not is_move(size, view, move):
            return "move", k
        if in_hands(size, view, move) and k < len(path_moves) - 1:
            return "hands", k
        view = behind(size, rule, view, move)
    return None


def a_path(size, rule, most, chance):
    """Some path of up to so many moves, each word as likely, but into two hands rather than elsewhere."""
    view = chance.choice(starts(size))
    start, path_moves = view, []
    for _ in range(chance.randrange(most + 1)):
        ways = moves(size, view)
        if not ways:
            break
        word = chance.choice(sorted({move[0] for move in ways}))
        move = chance.choice([move for move in ways if move[0] == word])
        into_hands = [move for move in ways if in_hands(size, view, move)]
        if into_hands and chance.random() < 0.3:
            move = chance.choice(into_hands)
        path_moves.append(move)
        if in_hands(size, view, move):
            break
        view = behind(size, rule, view, move)
    return start, tuple(path_moves)


def some_paths(many, seed, most=20):
    """Triples of a size, a rule, and a path."""
    chance = random.Random(seed)
    found = []
    for _ in range(many):
        size = chance.choice(SMALL + WIDE)
        rule = some_rules(5, chance)[chance.randrange(5)]
        rule = chance.choice([rule, rule, machinewords.a_rule(chance)])
        found.append((size, rule, a_path(size, rule, most, chance)))
    return found


def a_view(size, chance):
    """Some view by form, to which no path need lead."""

    def some_names():
        return tuple(sorted(chance.sample(size[0], chance.randrange(len(size[0]) + 1))))

    entries = []
    opened = 0
    for _ in range(chance.randrange(size[1] + 1)):
        if opened < size[2] and chance.random() < 0.4:
            opened += 1
            entries.append(("guess", some_names()))
        else:
            words = {chance.choice(["made", "makes", "reads", "turns"]), chance.choice(["turns", "turns", ""])} - {""}
            entries.append(tuple(sorted(words)) if chance.random() < 0.8 else ())
    return some_names(), chance.random() < 0.5, chance.random() < 0.5, tuple(entries)
