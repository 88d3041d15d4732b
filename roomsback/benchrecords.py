"""What a bench knows behind each of its events, and what the next one does."""

from roomsback.benchevents import is_event_of
from roomsback.ledgers import first_ledger, ledger_after, with_room
from roomsback.lookings import holders_of
from roomsback.machines import first_stand, stand_after
from roomsback.moving import can_move, needs_here


class Record:
    """What is known behind an event; answer and is_hands are those of the event itself. It never changes."""

    def __init__(self, event, answer, is_hands, rule, rooms, stand, ledger):
        self.event = event
        self.answer = answer
        self.is_hands = is_hands
        self.rule = rule
        self.rooms = rooms
        self.stand = stand
        self.ledger = ledger


def first_record(size, rule, rooms):
    """Return what is known ahead of all events."""
    return Record(None, (), False, rule, rooms, first_stand(size, rooms), first_ledger(size, rooms))


def is_hands_at(size, stand, move):
    """Tell whether a possible move is a take in two hands."""
    if move[0] != "take":
        return False
    _, step, room = move
    needs = [need for need in needs_here(stand, room) if need != "name"]
    others = [name for name in holders_of(size, stand, room) if name != step[1]]
    return len(needs) > 0 or len(others) > 0


def moved_record(size, last, move):
    """Return what is known behind a possible move."""
    ahead = last.stand
    behind = stand_after(size, last.rule, ahead, move)
    answer = tuple([room for room in behind[1] if room not in ahead[1]])
    ledger = ledger_after(size, ahead, last.ledger, move)
    return Record(move, answer, is_hands_at(size, ahead, move), last.rule, last.rooms, behind, ledger)


def roomy_record(last, event):
    """Return what is known behind a further room."""
    leads, free, filled, flight = last.stand
    room = last.rooms
    stand = (leads, (*free, room), filled, flight)
    return Record(event, (room,), False, last.rule, room + 1, stand, with_room(last.ledger))


def record_behind(size, last, event):
    """Return what is known behind a possible event."""
    if event[0] == "rule":
        return Record(event, (), False, event[1], last.rooms, last.stand, last.ledger)
    return roomy_record(last, event) if event[0] == "room" else moved_record(size, last, event)


def reason_against(size, past, event, most, most_rooms):
    """Return why any value is not possible as an event behind these records, None if it is.

    There are at most so many events, and so many rooms.
    """
    last = past[-1]
    if not is_event_of(size, event):
        return "shape"
    if len(past) > most:
        return "full"
    if event[0] == "rule":
        return "same" if event[1] == last.rule else None
    if event[0] == "room":
        return "rooms" if last.rooms >= most_rooms else None
    return None if can_move(size, last.stand, event) else "move"


def log_of(size, past):
    """Return the log of a bench with these records."""
    first, *others = past
    return (("bench", size, first.rule, first.rooms), *[record.event for record in others])
