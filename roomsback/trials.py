"""Trials: what is done with a house within a with statement is undone at its end."""


class Kept:
    """What a house and its twin were ahead of a trial; before is what the trial kept already."""

    def __init__(self, rule, past, other, before):
        self.rule = rule
        self.past = past
        self.other = other
        self.before = before


class Trial:
    """Keeps what a house was, and its twin, which is the house itself if it has no other one."""

    def __init__(self, house, twin):
        self.house = house
        self.twin = twin
        self.kept = None

    def __enter__(self):
        # The same trial may be entered again within itself, so what it kept before must stay.
        self.kept = Kept(self.house._rule, self.house._past, self.twin._past, self.kept)
        return self.house

    def __exit__(self, *told):
        self.house._rule = self.kept.rule
        self.house._past = self.kept.past
        self.twin._past = self.kept.other
        self.kept = self.kept.before
