"""The interface: names, arguments and kinds of values, and where each function and class is defined."""

import importlib
import inspect
import unittest

from halflink.asked.reach import quiet_rows, reached_rows
from halflink.engine.within import configurations_within
from halflink.networks.configurations import first_configuration
from halflink.runs.runs import all_runs, possible_moves
from halflink.views.oneway import view_numbers
from halflink.views.views import first_view, possible_acts
from halflink.talks.talks import Talk
from tests.samples import A, CALL

FUNCTIONS = {
    "halflink.machines.machines": (
        "is_machine(value)", "make_machine(size, *transitions, finals=())", "machine_from(size, transitions, finals)",
        "neighbours_of(machine)", "is_single(value)", "transitions_at(machine, state)",
        "letters_at(machine, state, word, other)", "reached_states(machine)", "trimmed(machine)",
        "renamed_machine(machine, **names)", "machine_renamed_by(machine, names)",
    ),
    "halflink.networks.networks": (
        "is_network(value)", "make_network(*links, **machines)", "network_from(machines, links)",
        "machine_names(network)", "machine_of(network, name)", "channels_of(network)", "linked_to(network, name)",
        "trees_of(network)", "way_between(network, one, other)", "with_machine(network, name, machine)",
        "without_machine(network, name)", "with_link(network, one, other)", "without_link(network, one, other)",
        "renamed_network(network, **new_names)", "renamed_network_by(network, new_names)",
    ),
    "halflink.networks.configurations": (
        "is_configuration(network, value)", "first_configuration(network)",
        "configuration_with(network, queues=None, **states)", "configuration_from(network, queues, states)",
        "queue_of(network, configuration, sender, taker)", "letter_count(network, configuration)",
        "crossed_links(network, configuration)",
    ),
    "halflink.runs.runs": (
        "possible_moves(network, configuration)", "after_move(network, configuration, move)",
        "is_run(network, value, *, start=None)", "after_run(network, run, *, start=None)",
        "configurations_on(network, run, *, start=None)", "first_crossing(network, run, *, start=None)",
        "all_runs(network, *, length, start=None)",
    ),
    "halflink.runs.logs": (
        "logs_of(network, run, *, start=None)", "is_logs(network, value, *, start=None)",
        "put_together(network, logs, *, start=None)", "after_logs(network, logs, *, start=None)",
        "is_crossing_logs(network, value, *, start=None)", "messages_of(network, logs, *, start=None)",
        "crossing_pair(network, logs, *, start=None)", "is_crossing_pair(network, logs, value, *, start=None)",
        "exchanged_run(network, run, at, *, start=None)", "exchanges_between(network, first, second, *, start=None)",
        "is_exchanges(network, first, second, value, *, start=None)",
    ),
    "halflink.views.views": (
        "first_view(network, *, start=None)", "is_view(network, value, *, start=None)",
        "possible_acts(network, view, *, start=None)", "is_exposed(network, view)",
        "is_path(network, value, *, start=None)", "view_after(network, path, *, start=None)",
        "after_path(network, path, *, start=None)", "run_of_path(network, path, *, start=None)",
        "weight_of(network, path, *, start=None)",
    ),
    "halflink.views.arranged": (
        "arrangement_of(network, run, *, start=None)", "is_arrangement(network, run, value, *, start=None)",
    ),
    "halflink.views.oneway": (
        "is_one_way(network, *, start=None)", "crossing_run(network, *, start=None)",
        "view_numbers(network, *, start=None)", "one_way_paper(network, *, start=None)",
        "is_one_way_paper(network, value, *, start=None)", "nearest_paper(network, *, start=None)",
        "is_nearest_paper(network, value, *, start=None)",
    ),
    "halflink.asked.reach": (
        "reach_paper(network, configuration, *, start=None)",
        "is_reach_paper(network, configuration, value, *, start=None)",
        "shortest_run(network, configuration, *, start=None)", "is_reached(network, configuration, *, start=None)",
        "quiet_rows(network, *, start=None)", "reached_rows(network, *, start=None)",
        "meeting_run(network, *, start=None, **states)", "meeting_run_by(network, states, *, start=None)",
    ),
    "halflink.asked.ends": (
        "movable_machines(network, configuration)", "is_dead_end(network, configuration)",
        "is_finished(network, configuration)", "refusing_channels(network, configuration)",
        "end_paper(network, *, start=None)", "is_end_paper(network, value, *, start=None)",
        "refusal_paper(network, sender, taker, *, start=None)",
        "is_refusal_paper(network, sender, taker, value, *, start=None)",
        "finish_paper(network, *, start=None)", "is_finish_paper(network, value, *, start=None)",
    ),
    "halflink.asked.bounds": (
        "load_of(network, configuration, *, weights=None)", "greatest_load(network, *, weights=None, start=None)",
        "load_paper(network, *, weights=None, start=None)",
        "is_load_paper(network, value, *, weights=None, start=None)", "queue_bounds(network, *, start=None)",
    ),
    "halflink.talks.words": (
        "is_word(value)", "mirrored_word(word)", "indices_doing(machine, word)", "is_doing(machine, word, value)",
        "states_after(machine, word)",
    ),
    "halflink.talks.alike": (
        "paired_network(left, right)", "are_alike(first, second)", "careful_difference(first, second)",
        "likeness_of(first, second)", "is_likeness(first, second, value)", "mirror_machine(word, other)",
        "telling_surrounding(first, second)", "is_telling(first, second, value)",
    ),
    "halflink.branches.branches": (
        "branch_run(network, one, other, word)", "is_branch_run(network, one, other, word, value)",
    ),
    "halflink.branches.replaced": (
        "with_branch(network, one, other, machine)", "rest_of(network, one, other, configuration)",
        "fits_branch(network, one, other, machine)", "carried_run(network, one, other, run, target)",
        "is_carried(network, one, other, run, target, value)",
    ),
    "halflink.engine.within": (
        "configurations_within(network, *, capacity=1, most=None, start=None)", "quiet_paper(network, row)",
        "is_quiet_paper(network, row, value)",
    ),
    "halflink.text.formats": (
        "format_word(word)", "parse_word(text)", "format_moves(moves)", "parse_moves(text)", "format_machine(machine)",
        "parse_machine(text)", "format_network(network)", "parse_network(text)",
        "format_configuration(network, configuration)", "parse_configuration(network, text)",
    ),
    "halflink.text.tables": ("transition_table(machine)", "count_table(talk, longest)"),
}

GENERATORS = (
    (possible_moves, (CALL, first_configuration(CALL)), {}), (all_runs, (CALL,), {"length": 3}),
    (possible_acts, (CALL, first_view(CALL)), {}), (view_numbers, (CALL,), {}), (quiet_rows, (CALL,), {}),
    (reached_rows, (CALL,), {}), (Talk.of(A).words, (), {}), (configurations_within, (CALL,), {}),
)

CONSTANTS = (
    ("halflink.machines.machines", "MAX_STATES", 30), ("halflink.machines.machines", "MAX_TRANSITIONS", 90),
    ("halflink.networks.networks", "MAX_MACHINES", 6), ("halflink.runs.runs", "MAX_LENGTH", 60),
    ("halflink.views.views", "MAX_START", 20), ("halflink.views.oneway", "MAX_VIEWS", 2000),
    ("halflink.asked.bounds", "MAX_WEIGHT", 1000),
)

METHODS = {
    "__init__": "(self, network, *, start=None)", "put": "(self, run)", "do": "(self, *moves)",
    "do_all": "(self, moves)", "back": "(self, many=1)", "__call__": "(self, move)",
}

TALK_METHODS = {
    "__call__": "(self, word)", "is_within": "(self, other)", "careful": "(self)", "count": "(self, length)",
    "words": "(self, *, longest=4)", "machine": "(self, other)",
}

TALK_CLASS_METHODS = {
    "of": "(machine)", "careful_of": "(machine)", "from_words": "(*words)", "by_words": "(words)",
    "from_rows": "(rows)",
}


# The classes of later stages: methods, class methods, properties and the words of operators, all in the class itself.
CLASSES = {
    ("halflink.branches.branches", "Branch"): (
        {"is_risky": "(word)", "careful": "()", "machine": "(other)"}, {"over": "(network, one, other)"},
        ("names", "root", "first_risk"), ("str",)),
    ("halflink.engine.schedulers", "Scheduler"): ({"__call__": "(moves)"}, {}, (), ("str",)),
    ("halflink.engine.schedulers", "Last"): ({"__call__": "(moves)"}, {}, (), ("str",)),
    ("halflink.engine.schedulers", "Turns"): ({"__call__": "(moves)", "__init__": "()"}, {}, (), ("str",)),
    ("halflink.engine.schedulers", "Quiet"): ({"__call__": "(moves)", "__init__": "(network)"}, {}, (), ("str",)),
    ("halflink.engine.schedulers", "QuietTurns"): ({"__call__": "(moves)", "__init__": "(network)"}, {}, (), ("str",)),
    ("halflink.engine.schedulers", "Named"): (
        {"__call__": "(moves)", "__init__": "(*names)"}, {"by": "(names)"}, (), ("str",)),
    ("halflink.engine.schedulers", "Alternating"): (
        {"__call__": "(moves)", "__init__": "(one, two)"}, {}, (), ("str",)),
    ("halflink.engine.engine", "Engine"): (
        {"__init__": "(network, *, capacity=1, most=None, start=None)", "change": "(*, capacity, most)",
         "do": "(*moves)", "do_all": "(moves)", "go": "(scheduler, *, steps=1)", "back": "(many=1)"}, {},
        ("now", "done_moves", "next_moves", "capacity", "most"),
        ("contains", "bool", "getitem", "len", "str", "eq")),
    ("halflink.desk.desk", "Desk"): (
        {"__init__": "(network, *, start=None)", "perform": "(*operations)", "perform_all": "(operations)",
         "undo": "(many=1)", "redo": "(many=1)", "log": "()", "crossing_run": "()", "reach_paper": "(configuration)",
         "end_paper": "()", "queue_bounds": "()", "view_count": "()", "is_unseen": "(name, machine, state)"},
        {"replayed": "(network, groups, *, start=None)"}, ("network", "now", "crossed", "done"),
        ("contains", "getitem", "len", "str", "eq")),
    ("halflink.desk.desk", "GuardedDesk"): (
        {"__init__": "(network, *, start=None)", "perform": "(*operations)", "perform_all": "(operations)",
         "undo": "(many=1)", "redo": "(many=1)"}, {"replayed": "(network, groups, *, start=None)"}, (), ()),
    ("halflink.text.shell", "Shell"): (
        {"__init__": "()", "answer": "(command)", "answer_all": "(commands)", "desk": "()"}, {}, (), ("len", "str")),
}

BASES = {
    "Branch": ("Talk",), "Last": ("Scheduler",), "Turns": ("Scheduler",), "Quiet": ("Scheduler",),
    "QuietTurns": ("Quiet", "Turns", "Scheduler"), "Named": ("Scheduler",), "Alternating": ("Scheduler",),
    "GuardedDesk": ("Desk",),
}


def parameters(function):
    """The names, kinds and default values of the parameters; all before a star are passed by position."""
    kinds = {inspect.Parameter.POSITIONAL_ONLY: inspect.Parameter.POSITIONAL_OR_KEYWORD}
    found = inspect.signature(function).parameters.values()
    return [(part.name, kinds.get(part.kind, part.kind), part.default) for part in found]


def written(text):
    """The same of a signature as the document writes it."""
    names = {}
    exec(f"def told{text}:\n    pass", names)
    return parameters(names["told"])


class Interface(unittest.TestCase):
    def test_functions(self):
        for name, told in FUNCTIONS.items():
            module = importlib.import_module(name)
            for text in told:
                word, bracket, rest = text.partition("(")
                function = getattr(module, word)
                self.assertTrue(inspect.isfunction(function), text)
                self.assertEqual(function.__module__, name, text)
                self.assertEqual(function.__code__.co_filename, module.__file__, text)
                self.assertEqual((function.__name__, parameters(function)), (word, written(bracket + rest)))

    def test_generators(self):
        for function, arguments, keywords in GENERATORS:
            found = function(*arguments, **keywords)
            self.assertIs(iter(found), found)
            self.assertTrue(inspect.isgenerator(found))
            found.close()

    def test_constants(self):
        for name, word, value in CONSTANTS:
            found = getattr(importlib.import_module(name), word)
            self.assertEqual((type(found), found), (int, value))

    def test_runner(self):
        runner = importlib.import_module("halflink.runs.runner").Runner
        self.assertTrue(inspect.isclass(runner))
        self.assertEqual(runner.__module__, "halflink.runs.runner")
        self.assertEqual((type(vars(runner)["LONGEST"]), runner.LONGEST), (int, 1000))
        for name, signature in METHODS.items():
            self.assertEqual(parameters(vars(runner)[name])[1:], written(signature)[1:], name)
        for name in ("__contains__", "__getitem__", "__bool__", "__len__", "__str__", "__eq__"):
            self.assertTrue(inspect.isfunction(vars(runner)[name]), name)
        self.assertIs(type(vars(runner)["along"]), classmethod)
        self.assertEqual(parameters(runner.along), written("(network, run, start)"))
        for name in ("now", "next_moves", "done_moves"):
            self.assertIs(type(vars(runner)[name]), property)
        self.assertIsNotNone(vars(runner)["done_moves"].fset)

    def test_talk(self):
        talk = importlib.import_module("halflink.talks.talks").Talk
        self.assertTrue(inspect.isclass(talk))
        self.assertEqual(talk.__module__, "halflink.talks.talks")
        self.assertEqual((type(vars(talk)["LIMIT"]), talk.LIMIT), (int, 200))
        for name, signature in TALK_METHODS.items():
            self.assertTrue(inspect.isfunction(vars(talk)[name]), name)
            self.assertEqual(parameters(vars(talk)[name])[1:], written(signature)[1:], name)
        for name, signature in TALK_CLASS_METHODS.items():
            self.assertIs(type(vars(talk)[name]), classmethod, name)
            self.assertEqual(parameters(getattr(talk, name)), written(signature), name)
        for name in ("__contains__", "__getitem__", "__and__", "__or__", "__neg__", "__bool__", "__len__", "__str__",
                     "__eq__"):
            self.assertTrue(inspect.isfunction(vars(talk)[name]), name)
        for name in ("rows", "signs", "is_careful"):
            self.assertIs(type(vars(talk)[name]), property)

    def test_classes(self):
        for (name, word), (methods, class_methods, properties, words) in CLASSES.items():
            found = getattr(importlib.import_module(name), word)
            self.assertTrue(inspect.isclass(found))
            self.assertEqual((found.__module__, found.__name__), (name, word))
            for method, signature in methods.items():
                self.assertTrue(inspect.isfunction(vars(found)[method]), (word, method))
                self.assertEqual(parameters(vars(found)[method])[1:], written(signature), (word, method))
            for method, signature in class_methods.items():
                self.assertIs(type(vars(found)[method]), classmethod, (word, method))
                self.assertEqual(parameters(getattr(found, method)), written(signature), (word, method))
            for method in properties:
                self.assertIs(type(vars(found)[method]), property, (word, method))
            for method in words:
                self.assertTrue(inspect.isfunction(vars(found)[f"__{method}__"]), (word, method))
            self.assertLessEqual(set(BASES.get(word, ())), {base.__name__ for base in found.__mro__[1:]}, word)

    def test_values_of_classes(self):
        shell = importlib.import_module("halflink.text.shell").Shell
        self.assertEqual(type(vars(shell)["WORDS"]), tuple)
        self.assertEqual(shell.WORDS, ("add", "bounds", "crossing", "do", "drop", "end", "join", "load", "moves", "now",
                                       "part", "redo", "undo", "words"))
        engine = importlib.import_module("halflink.engine.engine").Engine
        for name in ("capacity", "most"):
            self.assertIsNotNone(vars(engine)[name].fset)

    def test_errors(self):
        errors = importlib.import_module("halflink.errors")
        for name in ("LinkError", "InvalidMachine", "InvalidNetwork", "InvalidConfiguration", "InvalidLogs",
                     "InvalidView", "InvalidWord", "InvalidOperation", "ParseError", "InvalidCommand", "UnknownName",
                     "InvalidNumber", "InvalidRun", "InvalidPath", "TooMany", "Crossed", "NothingToUndo"):
            self.assertEqual(getattr(errors, name).__module__, "halflink.errors")
            self.assertTrue(issubclass(getattr(errors, name), Exception))


if __name__ == "__main__":
    unittest.main()
