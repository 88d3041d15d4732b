"""Reading the lines of steps, clauses, rules and sizes."""

from roomsback.demands import demand
from roomsback.kinds import LONGEST_NAME, MOMENTS, NEEDS, is_number, is_size
from roomsback.linewalks import by_name, by_number, by_word, lines_in, read_line
from roomsback.ruletexts import clause_line
from roomsback.stepways import step_of, step_ways


def step_read(size, text):
    """Return the step of the size that a string writes."""
    demand(is_size(size), "size")
    demand(isinstance(text, str), "text")
    return step_of(read_line(text, step_ways, size, 0))


def all_clauses():
    """Return a list of all clauses."""
    sets = [()]
    for need in NEEDS:
        sets = sets + [(*tests, need) for tests in sets]
    return [(moment, tests) for moment in MOMENTS for tests in sets]


def clause_ways(above, part, got):
    """Return the ways through the line of a clause that is greater than the one in above, if any."""
    greater = [clause for clause in all_clauses() if above is None or clause > above]
    return [by_word(clause_line(clause), clause, "end") for clause in greater]


def clause_read(text, *, line=0):
    """Return the clause that a string writes."""
    demand(isinstance(text, str), "text")
    demand(is_number(line), "line")
    return read_line(text, clause_ways, None, line)


def rule_read(text):
    """Return the rule that a string writes."""
    demand(isinstance(text, str), "text")
    rule = []
    above = None
    for line, words in enumerate(lines_in(text)):
        above = read_line(words, clause_ways, above, line)
        rule.append(above)
    return tuple(rule)


def size_ways(about, part, got):
    """Return the ways on in the line of a size."""
    if part == "start":
        return [by_name("", "names")]
    if part == "names":
        ways = [by_word("; ", (), "places")]
        # Behind the greatest of all names there is none.
        if got[-1] < "z" * LONGEST_NAME:
            ways.append(by_word(" ", (), "name"))
        return ways
    if part == "name":
        return [by_name(got[-1], "names")]
    if part == "places":
        return [by_number(1, "placed")]
    if part == "placed":
        return [by_word(" places; ", (), "guesses")]
    if part == "guesses":
        return [by_number(0, "guessed")]
    if part == "guessed":
        return [by_word(" guesses; ", (), "copies")]
    return [by_word("copies", (True,), "end"), by_word("no copies", (False,), "end")]


def size_of(got):
    """Return the size of which these names and numbers were read."""
    return (got[:-3], *got[-3:])


def size_read(text):
    """Return the size that a string writes."""
    demand(isinstance(text, str), "text")
    return size_of(read_line(text, size_ways, None, 0))
