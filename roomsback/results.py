"""The results of a run, beside those of the plain machine."""

from roomsback.ledgers import first_ledger, ledger_after, shows_in
from roomsback.walking import stands_of


def ledger_behind(size, rule, rooms, run):
    """Return the ledger behind a run."""
    stands = stands_of(size, rule, rooms, run)
    ledger = first_ledger(size, rooms)
    for stand, move in zip(stands, run):
        ledger = ledger_after(size, stand, ledger, move)
    return ledger


def results_read(size, rule, rooms, run):
    """Return the triples of the makes that left: the result, what was read, and what was due to be read."""
    return ledger_behind(size, rule, rooms, run)[4]


def plain_cells(size, rule, rooms, run):
    """Return the results in the cells of the plain machine, behind all steps that were not dropped."""
    return ledger_behind(size, rule, rooms, run)[2]


def does_show(size, rule, rooms, run):
    """Tell whether a step left that has read something else than it was due to read."""
    return shows_in(ledger_behind(size, rule, rooms, run))
