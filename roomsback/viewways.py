"""The ways from a view to the next ones.

A way is a tuple (move, bare, moments, is_hands): a move of views, the view
behind it before the rule is asked, the moments of the room at it, and whether
it is a take in two hands.
"""

from roomsback.firing import fires
from roomsback.steps import sames_of
from roomsback.viewforms import USES, is_open_entry, needs_seen, open_entries


def put(entries, k, entry):
    """Return the entries with this one at place k."""
    return (*entries[:k], entry, *entries[k + 1:])


def leave_ways(view):
    """Return a list of the way by which the oldest step leaves, if it can."""
    names, is_free, is_filled, entries = view
    if len(entries) == 0:
        return []
    oldest = entries[0]
    if "makes" in oldest or "reads" in oldest or is_open_entry(oldest):
        return []
    moments = ("left",) if "turns" in oldest else ()
    return [(("leave",), (names, is_free, is_filled, entries[1:]), moments, False)]


def run_ways(view):
    """Return a list of the ways by which a make runs."""
    names, is_free, is_filled, entries = view
    ways = []
    for k, entry in enumerate(entries):
        if "makes" in entry:
            # Behind made and makes there can only be turns, so the words still ascend.
            ran = put(entries, k, ("made", *entry[1:]))
            ways.append((("run", k), (names, is_free, True, ran), ("made",), False))
        elif "reads" in entry and is_filled:
            ran = put(entries, k, entry[1:])
            ways.append((("run", k), (names, is_free, is_filled, ran), ("read",), False))
    return ways


def right_way(view, k):
    """Return the way by which the open guess at place k was right."""
    names, is_free, is_filled, entries = view
    moments = ("right",) if len(entries[k][1]) > 0 else ()
    return ("right", k), (names, is_free, is_filled, put(entries, k, ())), moments, False


def is_done_with(entry):
    """Tell whether a step with this entry is done with the room when it is dropped."""
    return any([word in entry for word in USES])


def wrong_way(view, k):
    """Return the way by which the open guess at place k was wrong."""
    _, is_free, is_filled, entries = view
    moments = ("gone",) if any([is_done_with(entry) for entry in entries[k + 1:]]) else ()
    return ("wrong", k), (entries[k][1], is_free, is_filled, (*entries[:k], ())), moments, False


def judge_ways(view):
    """Return a list of the ways by which an open guess was right, and of those by which one was wrong."""
    places = [k for k, entry in enumerate(view[3]) if is_open_entry(entry)]
    return [*[right_way(view, k) for k in places], *[wrong_way(view, k) for k in places]]


def without(names, name):
    """Return the set of these names but this one."""
    return tuple([kept for kept in names if kept != name])


def with_name(names, name):
    """Return the set of these names and this one."""
    return names if name in names else tuple(sorted([*names, name]))


def make_way(view, name, sources):
    """Return the way by which a make enters that takes another room."""
    names, is_free, is_filled, entries = view
    moments = ("turned",) if name in names else ()
    words = ("reads",) if len(sources) > 0 else ()
    if name in names:
        words = (*words, "turns")
    behind = (without(names, name), is_free, is_filled, (*entries, words))
    return ("enter", ("make", name, sources)), behind, moments, False


def guess_way(view):
    """Return the way by which a guess enters."""
    names, is_free, is_filled, entries = view
    return ("enter", ("guess",)), (names, is_free, is_filled, (*entries, ("guess", names))), (), False


def same_way(view, step):
    """Return the way by which a same enters."""
    names, is_free, is_filled, entries = view
    _, name, other = step
    turned = ("turns",) if name in names else ()
    behind = with_name(names, name) if other in names else without(names, name)
    moments = ("turned",) if name in names else ()
    return ("enter", step), (behind, is_free, is_filled, (*entries, turned)), moments, False


def enter_ways(size, view):
    """Return a list of the ways by which a step enters that does not take the room, if there is a place."""
    names, _, _, entries = view
    ways = []
    if open_entries(entries) < size[2]:
        ways.append(guess_way(view))
    for name in size[0]:
        if name in names:
            ways.append(make_way(view, name, ()))
        ways.extend([make_way(view, name, (source,)) for source in names])
    for step in sames_of(size):
        if step[1] in names or step[2] in names:
            ways.append(same_way(view, step))
    return ways


def take_way(view, name):
    """Return the way by which a make of this name takes the room."""
    names, _, _, entries = view
    others = without(names, name)
    words = ("makes", "turns") if name in names else ("makes",)
    moments = ("turned",) if name in names else ()
    needs = needs_seen((others, False, False, entries))
    behind = (with_name(names, name), False, False, (*entries, words))
    return ("take", ("make", name, ())), behind, moments, len(needs) > 0


def ways_of(size, view):
    """Return a list of the ways from a view, in the order of its moves."""
    names, is_free, _, entries = view
    ways = [*leave_ways(view), *run_ways(view), *judge_ways(view)]
    if len(entries) < size[1]:
        ways.extend(enter_ways(size, view))
        if is_free:
            ways.extend([take_way(view, name) for name in size[0]])
    return ways


def settled(rule, way):
    """Return the view behind a way, with what the rule gives back."""
    _, bare, moments, _ = way
    if len(moments) == 0 or not fires(rule, moments, needs_seen(bare)):
        return bare
    return bare[0], True, bare[2], bare[3]


def way_by(size, view, move):
    """Return the way of a move from a view, None if this value is no move that is possible there."""
    # True and 1 are equal for Python, so the places are looked at first.
    if isinstance(move, tuple) and len(move) == 2 and isinstance(move[1], bool):
        return None
    for way in ways_of(size, view):
        if way[0] == move:
            return way
    return None
