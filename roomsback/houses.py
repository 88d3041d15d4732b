"""A machine that is led move by move."""

from roomsback.demands import demand
from roomsback.errors import NotPossible, NothingToUndo
from roomsback.kinds import is_room, is_rule
from roomsback.ledgers import first_ledger, ledger_after, shows_in
from roomsback.machines import first_stand, possible_moves, stand_after
from roomsback.movetexts import run_text
from roomsback.moving import can_move
from roomsback.trials import Trial
from roomsback.walking import demand_machine, stands_from


class House:
    """A machine, and how it came to its stand."""

    def __init__(self, size, rule, rooms):
        demand_machine(size, rule, rooms)
        self._size = size
        self._rule = rule
        self._rooms = rooms
        # Triples of a move, the stand behind it and the ledger behind it; the first one has no move.
        # It is never changed but always made anew, so a trial need only keep it.
        self._past = ((None, first_stand(size, rooms), first_ledger(size, rooms)),)

    @property
    def size_now(self):
        """The size."""
        return self._size

    @property
    def rooms_now(self):
        """The number of rooms."""
        return self._rooms

    @property
    def stand_now(self):
        """The stand behind the moves."""
        return self._past[-1][1]

    @property
    def run_now(self):
        """The tuple of the moves."""
        return tuple([move for move, _, _ in self._past[1:]])

    @property
    def shows_now(self):
        """Whether a step left that had read something else than it was due to read."""
        return shows_in(self._past[-1][2])

    @property
    def rule_now(self):
        """The rule by which the next moves are done."""
        return self._rule

    @rule_now.setter
    def rule_now(self, value):
        demand(is_rule(value), "rule")
        self._rule = value

    def allows(self, move):
        """Tell whether any value is a move that is possible now."""
        return can_move(self._size, self.stand_now, move)

    def go(self, move):
        """Do a move, and return the set of the rooms that it gave back."""
        if not self.allows(move):
            raise NotPossible(-1)
        _, ahead, ledger = self._past[-1]
        behind = stand_after(self._size, self._rule, ahead, move)
        self._past = (*self._past, (move, behind, ledger_after(self._size, ahead, ledger, move)))
        return tuple([room for room in behind[1] if room not in ahead[1]])

    def __iadd__(self, other):
        self.go(other)
        return self

    def undo(self):
        """Take back the last move, and return it."""
        if len(self._past) == 1:
            raise NothingToUndo(0)
        move = self._past[-1][0]
        self._past = self._past[:-1]
        return move

    def stands_ahead(self, moves):
        """Return a list of the stand now and those behind these values, as far as they are possible moves."""
        return stands_from(self._size, self._rule, self.stand_now, moves)

    def tried(self, *moves):
        """Return the stand behind these moves, and do none of them."""
        stands = self.stands_ahead(moves)
        if len(stands) <= len(moves):
            raise NotPossible(len(stands) - 1)
        return stands[-1]

    def possible(self):
        """Yield the moves that are possible now."""
        size = self._size
        stand = self.stand_now
        for move in possible_moves(size, stand):
            if self.allows(move):
                yield move

    def trial(self):
        """Return what undoes, at the end of a with statement, what is done within it."""
        return Trial(self, self)

    def __getitem__(self, at):
        names = self._size[0]
        demand(at in names, "name")
        return self.stand_now[0][names.index(at)]

    def __contains__(self, x):
        return is_room(x) and x in self.stand_now[1]

    def __iter__(self):
        raise TypeError("a House is not iterated over")

    def __len__(self):
        return len(self._past[1:])

    def __eq__(self, other):
        return (isinstance(other, House) and self._size == other._size and self._rooms == other._rooms
                and self._rule == other._rule and self.run_now == other.run_now and self.stand_now == other.stand_now)

    def __str__(self):
        return str(run_text(self.run_now))
