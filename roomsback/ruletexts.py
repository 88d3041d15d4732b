"""The lines of steps, clauses, rules and sizes."""

from roomsback.demands import demand
from roomsback.kinds import is_any_step, is_clause, is_rule, is_size


def step_text(step):
    """Return the line of a step."""
    demand(is_any_step(step), "step")
    if step[0] != "make":
        return " ".join(step)
    _, name, sources = step
    if len(sources) == 0:
        return f"make {name}"
    return " ".join(["make", name, "of", *sources])


def clause_line(clause):
    """Return the line of what is known to be a clause."""
    moment, tests = clause
    if len(tests) == 0:
        return moment
    return " ".join([moment, "unless", *tests])


def clause_text(clause):
    """Return the line of a clause."""
    demand(is_clause(clause), "clause")
    return clause_line(clause)


def rule_text(rule):
    """Return the lines of the clauses of a rule."""
    demand(is_rule(rule), "rule")
    return "\n".join([clause_line(clause) for clause in rule])


def size_text(size):
    """Return the line of a size."""
    demand(is_size(size), "size")
    names, places, guesses, copies = size
    words = "copies" if copies else "no copies"
    return "; ".join([" ".join(names), f"{places} places", f"{guesses} guesses", words])
