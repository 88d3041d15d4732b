"""[18]: the lines of steps, clauses, rules and sizes."""

import unittest

from roomsback.errors import NotUsable
from roomsback.ruletexts import clause_text, rule_text, size_text, step_text
from tests.test_kinds import CLAUSES
from tests.test_rules import BAD, RULE, not_usable, some_rules
from tests.values import STRANGE, Case


class Texts(Case):
    def test_steps(self):
        self.same("make a of a b", step_text, ("make", "a", ("a", "b")))
        self.same("make a", step_text, ("make", "a", ()))
        self.same("make of of of", step_text, ("make", "of", ("of",)))
        self.same("same b a", step_text, ("same", "b", "a"))
        self.same("guess", step_text, step=("guess",))

    def test_clauses(self):
        for moment, tests in CLAUSES:
            words = moment + (" unless " + " ".join(tests) if tests else "")
            self.same(words, clause_text, (moment, tests))

    def test_rules(self):
        self.same("gone unless name picture reader\nleft", rule_text, RULE)
        self.same("", rule_text, ())
        for rule in some_rules(30, 11):
            self.same("\n".join(map(clause_text, rule)), rule_text, rule=rule)

    def test_sizes(self):
        self.same("a b; 2 places; 0 guesses; no copies", size_text, (("a", "b"), 2, 0, False))
        self.same("x; 1 places; 12 guesses; copies", size_text, (("x",), 1, 12, True))
        great = 10 ** 60 - 1
        self.same(f"x; {great} places; {great} guesses; copies", size_text, size=(("x",), great, great, True))

    def test_wrong_arguments(self):
        for thing in STRANGE:
            self.fails(*not_usable("step"), step_text, thing)
            self.fails(*not_usable("clause"), clause_text, thing)
            self.fails(*not_usable("size"), size_text, thing)
        for thing in BAD:
            self.fails(*not_usable("rule"), rule_text, thing)
        self.fails(NotUsable, {"word": "step", "at": -1}, step_text, step=("same", "a", "a"))


if __name__ == "__main__":
    unittest.main()
