"""What a rule is for a size."""

from roomsback.judging import is_safe
from roomsback.keeping import loses_none


def verdict_on(size, rule):
    """Return "hands" if the rule is not safe, "loses" if it is and loses a room, otherwise "good"."""
    if not is_safe(size, rule):
        return "hands"
    return "good" if loses_none(size, rule) else "loses"
