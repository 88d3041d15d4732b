"""Two machines with different rules that are led through the same moves."""

from roomsback.demands import demand
from roomsback.errors import NotPossible
from roomsback.houses import House
from roomsback.kinds import is_rule
from roomsback.trials import Trial


class TwinHouse(House):
    """A machine that is led, and a second one by another rule beside it."""

    def __init__(self, size, rule, rooms, other):
        super().__init__(size, rule, rooms)
        demand(is_rule(other), "other")
        self._twin = House(size, other, rooms)

    @property
    def other_now(self):
        """The stand of the second machine."""
        return self._twin.stand_now

    @property
    def unlike_now(self):
        """The set of the rooms that are free in one of both machines alone."""
        mine = self.stand_now[1]
        others = self._twin.stand_now[1]
        return tuple(sorted(set(mine) ^ set(others)))

    def allows(self, move):
        """Tell whether any value is a move that is possible now in both machines."""
        return super().allows(move) and self._twin.allows(move)

    def go(self, move):
        """Do a move in both machines, and return the set of the rooms that it gave back in the first one."""
        given = super().go(move)
        self._twin.go(move)
        return given

    def undo(self):
        """Take back the last move in both machines, and return it."""
        move = super().undo()
        self._twin.undo()
        return move

    def tried(self, *moves):
        """Return the stand of the first machine behind these moves, and do none of them."""
        stands = self.stands_ahead(moves)
        done = min(len(stands), len(self._twin.stands_ahead(moves))) - 1
        if done < len(moves):
            raise NotPossible(done)
        return stands[-1]

    def trial(self):
        """Return what undoes, at the end of a with statement, what is done within it in both machines."""
        return Trial(self, self._twin)
