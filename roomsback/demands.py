"""How a function refuses an argument."""

from roomsback.errors import NotUsable


def demand(holds, word):
    """Raise the error for the parameter called word unless this holds."""
    if not holds:
        raise NotUsable(word, -1)
