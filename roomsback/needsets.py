"""The tests that a rule needs to be safe."""

from roomsback.demands import demand
from roomsback.judging import is_safe, two_path
from roomsback.kinds import NEEDS, is_moment, is_rule, is_size
from roomsback.pathwalks import is_path
from roomsback.rulechanges import with_test
from roomsback.steps import subsets_of


def has_all(tests, others):
    """Tell whether a set of needs has all of these others."""
    return all([need in tests for need in others])


def least_tests(size, moment):
    """Return the set of the least sets of tests with which the rule of one clause at this moment is safe."""
    demand(is_size(size), "size")
    demand(is_moment(moment), "moment")
    least = []
    # Sets with fewer needs come first, and a safe rule stays so with further tests.
    for tests in subsets_of(NEEDS):
        if not any([has_all(tests, fewer) for fewer in least]) and is_safe(size, ((moment, tests),)):
            least.append(tests)
    return tuple(sorted(least))


def with_tests(rule, pairs):
    """Return the rule with the need of each pair added to the tests of the clause with its index."""
    changed = list(rule)
    for k, need in pairs:
        changed[k] = with_test(changed[k], need)
    # Clauses that became equal are one.
    return tuple(sorted(set(changed)))


def breaks_all(size, rule, paths):
    """Tell whether none of these paths is a path of the rule."""
    return not any([is_path(size, rule, path) for path in paths])


def needed_pairs(size, rule):
    """Return a list of the pairs that are needed for each clause to be safe by itself."""
    needed = []
    for k, clause in enumerate(rule):
        moment, tests = clause
        least = least_tests(size, moment)
        every = [need for need in NEEDS if all([need in fewer for fewer in least])]
        needed.extend([(k, need) for need in every if need not in tests])
    return needed


def fewest_tests(size, rule):
    """Return as few pairs of an index of a clause and a need as there can be, which make the rule safe."""
    demand(is_size(size), "size")
    demand(is_rule(rule), "rule")
    # A rule is safe only if each of its clauses is, so some pairs need not be looked for.
    needed = needed_pairs(size, rule)
    others = [(k, need) for k, clause in enumerate(rule) for need in NEEDS if need not in clause[1]]
    others = [pair for pair in others if pair not in needed]
    paths = []
    # Fewer pairs come first, and with all of them the rule is safe, so there are always some.
    for more in subsets_of(others):
        pairs = tuple(sorted([*needed, *more]))
        changed = with_tests(rule, pairs)
        # Most rules are seen to be unsafe by a path that was found before.
        if breaks_all(size, changed, paths):
            path = two_path(size, changed)
            if path is None:
                return pairs
            paths.append(path)
    return tuple(sorted([*needed, *others]))
