"""What the rooms of a machine hold, beside the cells of the plain machine.

A ledger is a tuple (entered, held, cells, notes, left): how many steps
entered, the result in each room, None where there is none, the result in each
cell, as if all guesses in flight were right, a note for each step in flight,
and the triples of the makes that left. A note is a tuple (number, due, read,
cells): the number of the step, what a make is due to read, what it has read,
None before it runs, and the cells ahead of the step.
"""

from roomsback.moving import relead


def first_ledger(size, rooms):
    """Return the ledger at first."""
    names = size[0]
    return 0, names + (None,) * (rooms - len(names)), names, (), ()


def with_room(ledger):
    """Return the ledger with a further room, the next one."""
    entered, held, cells, notes, left = ledger
    return entered, (*held, None), cells, notes, left


def results_of(size, cells, names):
    """Return the tuple of the results in the cells of these names."""
    return tuple([cells[size[0].index(name)] for name in names])


def cells_after(size, cells, number, step):
    """Return the cells behind a step with this number."""
    if step[0] == "guess":
        return cells
    result = number if step[0] == "make" else results_of(size, cells, (step[2],))[0]
    return relead(size, cells, step[1], result)


def entered_after(size, ledger, step):
    """Return the ledger behind a step that enters."""
    entered, held, cells, notes, left = ledger
    due = results_of(size, cells, step[2]) if step[0] == "make" else ()
    note = (entered, due, None, cells)
    return entered + 1, held, cells_after(size, cells, entered, step), (*notes, note), left


def run_after(stand, ledger, k):
    """Return the ledger behind the run of a make."""
    entered, held, cells, notes, left = ledger
    _, room, rooms, _, _ = stand[3][k]
    number, due, _, ahead = notes[k]
    note = (number, due, tuple([held[other] for other in rooms]), ahead)
    return entered, (*held[:room], number, *held[room + 1:]), cells, (*notes[:k], note, *notes[k + 1:]), left


def left_after(stand, ledger):
    """Return the ledger behind the oldest step, which leaves."""
    entered, held, cells, notes, left = ledger
    number, due, read, _ = notes[0]
    if stand[3][0][0] == "make":
        left = (*left, (number, read, due))
    return entered, held, cells, notes[1:], left


def ledger_after(size, stand, ledger, move):
    """Return the ledger behind a move that is possible in the stand."""
    word = move[0]
    if word in ("take", "enter"):
        return entered_after(size, ledger, move[1])
    if word == "run":
        return run_after(stand, ledger, move[1])
    if word == "leave":
        return left_after(stand, ledger)
    entered, held, cells, notes, left = ledger
    if word == "right":
        return ledger
    k = move[1]
    return entered, held, notes[k][3], notes[:k + 1], left


def shows_in(ledger):
    """Tell whether a make left that has read something else than it was due to read."""
    return any([read != due for _, read, due in ledger[4]])
