"""The lines of views and of paths."""

from roomsback.demands import demand
from roomsback.movetexts import listed
from roomsback.ruletexts import step_text
from roomsback.viewforms import is_any_view, is_open_entry
from roomsback.viewmoves import is_any_view_move


def entry_text(entry):
    """Return the words of an entry."""
    if is_open_entry(entry):
        return f"guess {listed(entry[1])}"
    return listed(entry)


def view_text(view):
    """Return the line of a view."""
    demand(is_any_view(view), "view")
    names, is_free, is_filled, entries = view
    room = " ".join([listed(names), "free" if is_free else "held", "filled" if is_filled else "empty"])
    return " | ".join([room, *[entry_text(entry) for entry in entries]])


def seen_move_text(move):
    """Return the line of a move of views."""
    if move[0] in ("take", "enter"):
        return f"{move[0]} {step_text(move[1])}"
    return " ".join([str(part) for part in move])


def is_any_path(thing):
    """Tell whether any value is a pair of a view and a tuple of moves of views, of some size and by form."""
    if not isinstance(thing, tuple) or len(thing) != 2 or not is_any_view(thing[0]):
        return False
    return isinstance(thing[1], tuple) and all([is_any_view_move(move) for move in thing[1]])


def path_rows(path):
    """Return a list of the lines of the start of a path, and of its moves."""
    demand(is_any_path(path), "path")
    start, moves = path
    return [view_text(start), *[seen_move_text(move) for move in moves]]
