"""[5] to [7] once more, word by word, to compare the package with; and stands to compare them on."""

import itertools
import random

MOMENTS = ("gone", "left", "made", "read", "right", "turned")
NEEDS = ("maker", "name", "picture", "reader")


def words_of_stand(size, stand):
    """The stand as dicts and sets that may be changed."""
    leads, free, filled, flight = stand
    entries = []
    for entry in flight:
        if entry[0] == "make":
            entries.append(dict(zip(("kind", "room", "read", "turned", "run"), entry)))
        elif entry[0] == "same":
            entries.append(dict(zip(("kind", "room", "turned"), entry)))
        else:
            entries.append({"kind": "guess", "picture": entry[1], "open": entry[1] is not None})
    return {"leads": dict(zip(size[0], leads)), "free": set(free), "filled": set(filled), "flight": entries}


def stand_of_words(size, words):
    """The stand of such dicts and sets."""
    flight = []
    for entry in words["flight"]:
        if entry["kind"] == "guess":
            flight.append(("guess", entry["picture"] if entry["open"] else None))
        else:
            flight.append(tuple(entry.values()))
    leads = tuple(words["leads"][name] for name in size[0])
    return leads, tuple(sorted(words["free"])), tuple(sorted(words["filled"])), tuple(flight)


def is_open(entry):
    return entry["kind"] == "guess" and entry["open"]


def waits(entry):
    return entry["kind"] == "make" and not entry["run"]


def possible(size, stand, move):
    """[6]: whether a move by form is possible."""
    words = words_of_stand(size, stand)
    flight = words["flight"]
    room_left = len(flight) < size[1]
    if move[0] == "take":
        led = {words["leads"][name] for name in move[1][2]}
        return room_left and move[2] in words["free"] and move[2] not in led
    if move[0] == "enter":
        opened = sum(is_open(entry) for entry in flight)
        return room_left and (move[1] != ("guess",) or opened < size[2])
    if move[0] == "leave":
        return bool(flight) and not waits(flight[0]) and not is_open(flight[0])
    if move[1] >= len(flight):
        return False
    entry = flight[move[1]]
    if move[0] == "run":
        return waits(entry) and set(entry["read"]) <= words["filled"]
    return is_open(entry)


def needs(size, stand, room):
    """[7]: the needs of a room."""
    words = words_of_stand(size, stand)
    flight = words["flight"]
    found = set()
    if room in words["leads"].values():
        found.add("name")
    if any(is_open(entry) and room in entry["picture"] for entry in flight):
        found.add("picture")
    if any(waits(entry) and room in entry["read"] for entry in flight):
        found.add("reader")
    if any(waits(entry) and room == entry["room"] for entry in flight):
        found.add("maker")
    return tuple(sorted(found))


def change(size, stand, move):
    """[6]: the stand behind a possible move, without the rule, and [7]: the moments of each room at it."""
    words = words_of_stand(size, stand)
    leads, flight = words["leads"], words["flight"]
    moments = []
    if move[0] in ("take", "enter") and move[1] != ("guess",):
        name = move[1][1]
        moments.append((leads[name], "turned"))
    if move[0] == "take":
        read = tuple(leads[source] for source in move[1][2])
        flight.append({"kind": "make", "room": move[2], "read": read, "turned": leads[name], "run": False})
        leads[name] = move[2]
        words["free"].discard(move[2])
        words["filled"].discard(move[2])
    elif move == ("enter", ("guess",)):
        flight.append({"kind": "guess", "picture": tuple(leads[name] for name in size[0]), "open": True})
    elif move[0] == "enter":
        flight.append({"kind": "same", "room": leads[move[1][2]], "turned": leads[name]})
        leads[name] = leads[move[1][2]]
    elif move[0] == "run":
        entry = flight[move[1]]
        entry["run"] = True
        words["filled"].add(entry["room"])
        moments += [(entry["room"], "made"), *[(room, "read") for room in entry["read"]]]
    elif move[0] == "leave":
        entry = flight.pop(0)
        moments += [(entry["turned"], "left")] if entry["kind"] != "guess" else []
    else:
        entry = flight[move[1]]
        entry["open"] = False
        if move[0] == "right":
            moments += [(room, "right") for room in entry["picture"]]
        else:
            words["leads"] = dict(zip(size[0], entry["picture"]))
            for dropped in flight[move[1] + 1:]:
                if dropped["kind"] == "make":
                    moments.append((dropped["room"], "gone"))
                    moments += [(room, "gone") for room in dropped["read"] if not dropped["run"]]
            del flight[move[1] + 1:]
    by_room = {}
    for room, moment in moments:
        by_room.setdefault(room, set()).add(moment)
    return stand_of_words(size, words), by_room


def behind(size, rule, stand, move):
    """[7]: the stand behind a possible move, with what the rule gives back."""
    after, by_room = change(size, stand, move)
    leads, free, filled, flight = after
    given = set(free)
    for room, moments in by_room.items():
        there = set(needs(size, after, room))
        if any(moment in moments and not there & set(tests) for moment, tests in rule):
            given.add(room)
    return leads, tuple(sorted(given)), filled, flight


def touching(stand, room):
    """[9]: the places of the steps that touch a room."""
    found = []
    for k, entry in enumerate(stand[3]):
        if entry[0] == "guess" or entry[0] == "same" and room in entry[1:]:
            found.append(k)
        elif entry[0] == "make" and (room in (entry[1], entry[3]) or room in entry[2]):
            found.append(k)
    return tuple(found)


def steps(size):
    """[14]: all steps, in order."""
    names, _, guesses, copies = size
    found = [("guess",)] if guesses else []
    for name in names:
        for many in range(len(names) + 1):
            found += [("make", name, sources) for sources in itertools.combinations(names, many)]
    return found + [("same", name, other) for name, other in itertools.permutations(names, 2) if copies]


def moves(size, rooms):
    """All moves by form that can be possible somewhere, in the order of [23]."""
    found = [("leave",)]
    for word in ("run", "right", "wrong"):
        found += [(word, k) for k in range(size[1] + 1)]
    found += [("enter", step) for step in steps(size) if step[0] != "make"]
    return found + [("take", step, room) for step in steps(size) if step[0] == "make" for room in range(rooms)]


def a_rule(chance):
    """Some rule of up to six clauses."""
    some = [tuple(sorted(chance.sample(NEEDS, chance.randrange(4)))) for _ in range(6)]
    return tuple(sorted({(chance.choice(MOMENTS), tests) for tests in some[:chance.randrange(7)]}))


def a_stand(size, rooms, chance):
    """Some stand by form, to which no run need lead."""
    names, places, guesses, copies = size

    def a_room():
        return chance.randrange(rooms)

    def a_set():
        return tuple(sorted(chance.sample(range(rooms), chance.randrange(rooms + 1))))

    flight = []
    opened = 0
    for _ in range(chance.randrange(places + 1)):
        kind = chance.choice(["make"] * 3 + ["same"] * copies + ["guess"] * 2 * min(guesses, 1))
        if kind == "make":
            read = tuple(a_room() for _ in range(chance.randrange(len(names) + 1)))
            flight.append(("make", a_room(), read, a_room(), chance.random() < 0.4))
        elif kind == "same":
            flight.append(("same", a_room(), a_room()))
        elif opened < guesses and chance.random() < 0.8:
            opened += 1
            flight.append(("guess", tuple(a_room() for _ in names)))
        else:
            flight.append(("guess", None))
    return tuple(a_room() for _ in names), a_set(), a_set(), tuple(flight)


SIZES = [(("a",), 1, 0, False), (("a",), 2, 1, True), (("a", "b"), 2, 0, True), (("x", "y"), 3, 2, True),
         (("in", "of"), 3, 1, False), (("a", "b", "c"), 4, 2, True)]


def some_stands(many, seed):
    """Pairs of a size, a number of rooms and a stand, by form, and by runs of all sorts of rules."""
    chance = random.Random(seed)
    found = []
    while len(found) < many:
        size = chance.choice(SIZES)
        rooms = len(size[0]) + chance.randrange(4)
        found.append((size, rooms, a_stand(size, rooms, chance)))
        rule = a_rule(chance)
        first = tuple(range(len(size[0])))
        stand = (first, tuple(range(len(size[0]), rooms)), first, ())
        for _ in range(chance.randrange(12)):
            ways = [move for move in moves(size, rooms) if possible(size, stand, move)]
            if not ways:
                break
            word = chance.choice(sorted({move[0] for move in ways}))
            stand = behind(size, rule, stand, chance.choice([move for move in ways if move[0] == word]))
        found.append((size, rooms, stand))
    return found
