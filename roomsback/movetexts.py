"""The lines of moves, runs and stands."""

from roomsback.demands import demand
from roomsback.lookings import holders_of
from roomsback.machines import is_stand
from roomsback.moving import are_moves, is_any_move, needs_here
from roomsback.ruletexts import step_text


def move_text(move):
    """Return the line of a move."""
    demand(is_any_move(move), "move")
    if move[0] == "take":
        return f"take {step_text(move[1])} in {move[2]}"
    if move[0] == "enter":
        return f"enter {step_text(move[1])}"
    return " ".join([str(part) for part in move])


def run_text(run):
    """Return the lines of the moves of a run."""
    demand(are_moves(run), "run")
    return "\n".join([move_text(move) for move in run])


def listed(words):
    """Return words with commas between, - if there are none."""
    return ",".join(words) if len(words) > 0 else "-"


def room_row(size, stand, room):
    """Return the row of a room in a stand."""
    _, free, filled, _ = stand
    freedom = "free" if room in free else "held"
    filling = "filled" if room in filled else "empty"
    names = listed(holders_of(size, stand, room))
    needs = listed(needs_here(stand, room))
    return f"{room:>2} {freedom} {filling:<6} {names:<8} {needs}"


def stand_rows(size, rooms, stand):
    """Return a list of the rows of all rooms in a stand."""
    # That the size and the number of rooms are usable is seen to by is_stand.
    demand(is_stand(size, rooms, stand), "stand")
    return [room_row(size, stand, room) for room in range(rooms)]
