"""[9] once more: rooms that are late, and rooms that are lost, by the machines of viewwords."""

from tests import machinewords, viewwords


def is_late(size, view):
    return not view[1] and machinewords.needs(size, viewwords.stand_of(size, view), viewwords.ROOM) == ()


def led_on(size, rule, view):
    """All views to which moves lead from this one, and itself; behind a free room nothing is looked for."""
    found = {view}
    todo = [view]
    while todo:
        view = todo.pop()
        if view[1]:
            continue
        for move in viewwords.moves(size, view):
            after = viewwords.behind(size, rule, view, move)
            if after not in found:
                found.add(after)
                todo.append(after)
    return found


class Lost:
    """Tells of views whether the room is lost in them, and keeps what it found."""

    def __init__(self, size, rule):
        self.size, self.rule, self.known = size, rule, {}

    def __call__(self, view):
        if view not in self.known:
            self.known[view] = (is_late(self.size, view)
                                and not any(after[1] for after in led_on(self.size, self.rule, view)))
        return self.known[view]


def losing(size, rule):
    """The fewest moves to a view in which the room is lost, None if no path leads to one."""
    lost = Lost(size, rule)
    return viewwords.search(size, rule, lambda view, move, after: lost(after))[1]


def judged(size, rule):
    """[64]: hands, loses or good."""
    views, least = viewwords.judge(size, rule)
    if least is not None:
        return "hands"
    return "loses" if any(map(Lost(size, rule), views)) else "good"
