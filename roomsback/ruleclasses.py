"""Clauses and rules as objects, which never change."""

from roomsback.demands import demand
from roomsback.errors import NotUsable
from roomsback.firing import is_freed
from roomsback.kinds import NEEDS, is_clause, is_moment, is_need, is_rule
from roomsback.rulechanges import common, every_moment, joined, tested
from roomsback.ruletexts import clause_text, rule_text


def set_of_tests(things):
    """Return the set of the needs in this tuple of any values, none of which may stand twice."""
    for k, thing in enumerate(things):
        if not is_need(thing) or thing in things[:k]:
            raise NotUsable("tests", k)
    return tuple([need for need in NEEDS if need in things])


class Clause:
    """A moment, and the needs in whose absence it gives a room back."""

    def __init__(self, moment, *tests):
        demand(is_moment(moment), "moment")
        self._pair = (moment, set_of_tests(tests))

    @property
    def moment(self):
        """The moment."""
        return self._pair[0]

    @property
    def tests(self):
        """The set of the tests."""
        return self._pair[1]

    @property
    def pair(self):
        """The clause as a pair."""
        return self._pair

    def __add__(self, other):
        demand(is_need(other), "need")
        moment, tests = self._pair
        kept = [need for need in NEEDS if need in tests or need == other]
        return Clause(moment, *kept)

    def __sub__(self, other):
        demand(is_need(other), "need")
        moment, tests = self._pair
        kept = [need for need in tests if need != other]
        return Clause(moment, *kept)

    def __call__(self, moments, needs):
        return is_freed((self._pair,), moments, needs)

    def __len__(self):
        return len(self._pair[1])

    def __contains__(self, x):
        return is_need(x) and x in self._pair[1]

    def __eq__(self, other):
        return isinstance(other, Clause) and self._pair == other._pair

    def __str__(self):
        return str(clause_text(self._pair))


def pair_of(thing):
    """Return the pair of a clause, which is a pair or a Clause; None for any other value."""
    if isinstance(thing, Clause):
        return thing.pair
    return thing if is_clause(thing) else None


class Rule:
    """A set of clauses."""

    def __init__(self, clauses=()):
        demand(is_rule(clauses), "clauses")
        self._clauses = clauses

    @staticmethod
    def of(*clauses):
        """Return the Rule of these clauses, pairs or Clauses in any order."""
        pairs = []
        for k, clause in enumerate(clauses):
            pair = pair_of(clause)
            if pair is None or pair in pairs:
                raise NotUsable("clauses", k)
            pairs.append(pair)
        return Rule(tuple(sorted(pairs)))

    @property
    def clauses(self):
        """The rule as a tuple of pairs."""
        return self._clauses

    def lies_in(self, other):
        """Tell whether another Rule has all clauses of this one."""
        demand(isinstance(other, Rule), "other")
        theirs = other.clauses
        return all([pair in theirs for pair in self._clauses])

    def __getitem__(self, at):
        demand(is_moment(at), "moment")
        return tuple([Clause(moment, *tests) for moment, tests in self._clauses if moment == at])

    def __len__(self):
        return len(self._clauses)

    def __iter__(self):
        return iter(self._clauses)

    def __contains__(self, x):
        pair = pair_of(x)
        return pair is not None and pair in self._clauses

    def __eq__(self, other):
        return isinstance(other, Rule) and self._clauses == other._clauses

    def __str__(self):
        return str(rule_text(self._clauses))

    def __call__(self, moments, needs):
        return is_freed(self._clauses, moments, needs)

    def __or__(self, other):
        demand(isinstance(other, Rule), "other")
        return Rule(joined(self._clauses, other.clauses))

    def __and__(self, other):
        demand(isinstance(other, Rule), "other")
        return Rule(common(self._clauses, other.clauses))

    def __sub__(self, other):
        demand(isinstance(other, Rule), "other")
        theirs = other.clauses
        return Rule(tuple([pair for pair in self._clauses if pair not in theirs]))


class Everywhere(Rule):
    """The rule of a clause with the same tests for each moment."""

    def __init__(self, *tests):
        self._tests = set_of_tests(tests)
        super().__init__(every_moment(self._tests))

    @property
    def tests(self):
        """The set of the tests."""
        return self._tests


class Tested(Rule):
    """The rule that a rule becomes if a need is added to all of its tests."""

    def __init__(self, rule, need):
        super().__init__(tested(rule, need))
        self._source = rule
        self._need = need

    @property
    def source(self):
        """The rule of which it was made."""
        return self._source

    @property
    def need(self):
        """The need that was added."""
        return self._need
