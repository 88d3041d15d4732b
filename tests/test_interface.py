"""[11], [75], and the interface of the document: names and order of the parameters, and where each is defined."""

import ast
import importlib
import inspect
import pathlib
import unittest

PACKAGE = pathlib.Path(__file__).resolve().parent.parent / "roomsback"
LISTED = """
kinds: is_name(thing) is_room(thing) is_needs(thing) is_clause(thing) is_rule(thing) is_size(thing) is_step(size,thing)
rulechecker: lets_rule(thing)
steps: steps_of(size) sources_of(step) written_by(step)
ruleparts: clauses_at(rule,moment) moments_in(rule) tests_in(rule)
rulechanges: with_clause(rule,clause) without_clause(rule,clause) joined(rule,other) common(rule,other)
rulechanges: tested(rule,need,*,moment=None) full_rule() every_moment(tests)
firing: is_freed(rule,moments,needs)
ruletexts: step_text(step) clause_text(clause) rule_text(rule) size_text(size)
rulereadings: step_read(size,text) clause_read(text,*,line=0) rule_read(text) size_read(text)
ruleclasses: Clause(moment,*tests) Rule(clauses=()) Everywhere(*tests) Tested(rule,need)
machines: first_stand(size,rooms) is_stand(size,rooms,thing) is_move(size,thing) is_possible(size,stand,move)
machines: moved(size,rule,stand,move) possible_moves(size,stand)
lookings: needs_of(stand,room) moments_of(size,stand,move,room) holders_of(size,stand,room) places_of(stand,room)
runs: lets_run(size,rule,rooms,thing) stand_behind(size,rule,rooms,run) stands_along(size,rule,rooms,run) steps_in(run)
runs: drained(size,rule,rooms,run)
results: results_read(size,rule,rooms,run) plain_cells(size,rule,rooms,run) does_show(size,rule,rooms,run)
movetexts: move_text(move) run_text(run) stand_rows(size,rooms,stand)
movereadings: move_read(size,text) run_read(size,text)
houses: House(size,rule,rooms)
twinhouses: TwinHouse(size,rule,rooms,other)
views: start_views(size) is_view(size,thing) needs_in(view) view_steps(size,view) view_moves(size,view)
views: moments_at(size,view,move) view_behind(size,rule,view,move) is_in_two_hands(size,view,move)
paths: lets_path(size,rule,thing) view_at_end(size,rule,path)
viewing: view_of(size,stand,room) path_of(size,rule,rooms,run,room)
lifting: run_of(size,rule,path)
judging: two_path(size,rule) is_safe(size,rule) view_table(size,rule)
judgechecker: lets_two(size,rule,thing) lets_table(size,rule,thing)
showing: showing_run(size,rule)
viewtexts: view_text(view) path_rows(path)
losing: is_lost(size,rule,view) losing_paper(size,rule) late_path(size,rule)
losschecker: lets_losing(size,rule,thing)
keeping: keeping_paper(size,rule) loses_none(size,rule)
keepchecker: lets_keeping(size,rule,thing)
likeness: are_alike(size,rule,other) parting_path(size,rule,other)
partchecker: lets_parting(size,rule,other,thing)
pools: greatest_safe(size,pool) least_good(size,pool) are_good(size,pool) pool_paper(size,pool)
poolchecker: lets_pool(size,pool,thing)
cheapest: least_cost(size,pool,costs) cheapest_good(size,pool,costs)
needsets: least_tests(size,moment) fewest_tests(size,rule)
counts: rooms_needed(size,rule) losing_run(size,rule,times)
benchevents: is_event(size,thing)
benches: Bench(size,rule,rooms)
benchlogs: is_log(thing) replayed(log)
benchtexts: event_line(event) log_lines(log)
benchreadings: read_event(size,text) read_log(lines)
desks: Desk()
errors: InvalidPaper(word,at) NotUsable(word,at) NotPossible(at) InvalidEvent(event,reason) NothingToUndo(steps)
errors: Broken(done) InvalidText(line,column) InvalidRow(row)
"""
METHODS = """
ruleclasses Clause: __call__(moments,needs)
ruleclasses Rule: __call__(moments,needs) lies_in(other) of(*clauses)
houses House: go(move) undo() tried(*moves) possible() trial()
twinhouses TwinHouse: go(move) undo() tried(*moves) trial()
benches Bench: results() cells() alarms() table() given(k) verdict() go(event) set_rule(rule) add_room() barred(event)
benches Bench: tried(*events) undo() do_all(*events,keep=False) trial() counts() log()
desks Desk: say(row) counts()
"""
PROPERTIES = """
ruleclasses Clause: moment tests pair
ruleclasses Rule: clauses
ruleclasses Everywhere: tests
ruleclasses Tested: source need
houses House: size_now rooms_now stand_now run_now shows_now rule_now
twinhouses TwinHouse: other_now unlike_now
benches Bench: size_now rule_now rooms_now stand_now moves_now hands_now shows_now late_now
"""


def rows(text):
    """Pairs of what stands ahead of the colon and a word behind it."""
    return [(row.split(": ")[0], word) for row in text.strip().splitlines() for word in row.split(": ")[1].split()]


def parameters(call, skip=0):
    """The parameters of a function as they stand in the list."""
    shown = []
    for one in list(inspect.signature(call).parameters.values())[skip:]:
        if one.kind == one.KEYWORD_ONLY and not any(word.startswith("*") for word in shown):
            shown.append("*")
        shown.append({one.VAR_POSITIONAL: "*"}.get(one.kind, "") + str(one).lstrip("*").replace(" ", ""))
    return ",".join(shown)


class Interface(unittest.TestCase):
    def test_functions_and_classes(self):
        for module, word in rows(LISTED):
            name, given = word.rstrip(")").split("(", 1)
            if word.endswith("=())"):
                given = word[len(name) + 1:-1]
            with self.subTest(module=module, name=name):
                found = getattr(importlib.import_module(f"roomsback.{module}"), name)
                self.assertEqual(parameters(found), given)
                tree = ast.parse((PACKAGE / f"{module}.py").read_text(encoding="utf-8"))
                self.assertIn(name, [node.name for node in tree.body if isinstance(node, (ast.FunctionDef, ast.ClassDef))])

    def test_methods_stand_in_the_class_itself(self):
        for where, word in rows(METHODS):
            module, name = where.split(" ")
            method, given = word.rstrip(")").split("(", 1)
            with self.subTest(where=where, method=method):
                found = vars(getattr(importlib.import_module(f"roomsback.{module}"), name))[method]
                is_static = isinstance(found, staticmethod)
                self.assertEqual(parameters(found.__func__ if is_static else found, 0 if is_static else 1), given)

    def test_properties_stand_in_the_class_itself(self):
        for where, word in rows(PROPERTIES):
            module, name = where.split(" ")
            with self.subTest(where=where, word=word):
                found = vars(getattr(importlib.import_module(f"roomsback.{module}"), name))[word]
                self.assertIsInstance(found, property)
                self.assertIs(found.fset is not None, word == "rule_now")

    def test_families(self):
        errors = importlib.import_module("roomsback.errors")
        families = {"PaperError": "InvalidPaper", "UseError": "NotUsable NotPossible",
                    "BenchError": "InvalidEvent NothingToUndo Broken", "TextError": "InvalidText InvalidRow"}
        self.assertEqual(errors.RoomError.__bases__, (ValueError,))
        for family, names in families.items():
            self.assertEqual(getattr(errors, family).__bases__, (errors.RoomError,))
            for name in names.split():
                self.assertEqual(getattr(errors, name).__bases__, (getattr(errors, family),))


if __name__ == "__main__":
    unittest.main()
