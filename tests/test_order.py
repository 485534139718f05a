"""[0.5] and [0.12]: several wrong arguments at once, and which of the errors is due.

Each row has a function, right arguments for it, and its parameters in the order in which they are checked, each with
wrong values and the error for each of them.
"""

import unittest

from halflink.errors import (
    Crossed, InvalidConfiguration, InvalidLogs, InvalidMachine, InvalidNetwork, InvalidNumber, InvalidOperation,
    InvalidPath, InvalidRun, InvalidView, TooMany, UnknownName,
)
from halflink.machines.machines import (
    letters_at, machine_from, machine_renamed_by, neighbours_of, reached_states, transitions_at, trimmed,
)
from halflink.networks.configurations import (
    configuration_from, crossed_links, first_configuration, is_configuration, letter_count, queue_of,
)
from halflink.networks.networks import (
    channels_of, linked_to, machine_names, machine_of, network_from, renamed_network_by, trees_of, way_between,
    with_link, with_machine, without_link, without_machine,
)
from halflink.runs.logs import (
    after_logs, crossing_pair, exchanged_run, exchanges_between, is_crossing_logs, is_crossing_pair, is_exchanges,
    is_logs, logs_of, messages_of, put_together,
)
from halflink.runs.runner import Runner
from halflink.runs.runs import (
    after_move, after_run, all_runs, configurations_on, first_crossing, is_run, possible_moves,
)
from halflink.views.views import (
    after_path, first_view, is_exposed, is_path, is_view, possible_acts, run_of_path, view_after, weight_of,
)
from tests import spec
from tests.case import Case
from tests.samples import MID, NONE, TALKERS, WIDE
from tests.test_runs import BOTH
from tests.wrong import ALL, unlike

NET = WIDE
FIRST = spec.first(NET)
RUN = (("west", 0), ("left", 0), ("mid", 0))
LOGS = spec.logs(NET, RUN)
PATH = (("hand", "west", 0, "mid", 0), ("post", "left", 0))
VIEW = spec.path_view(NET, PATH, FIRST)
NAMES = [name for name, _ in NET[0]]
LONG = (FIRST[0], (("x",) * 21,) + FIRST[1][1:])
CROSSED = (FIRST[0], (("x",), (), ("x",)) + FIRST[1][3:])


def wrong(fits, error, more=()):
    """Pairs of a wrong value and its error; the error keeps the value where it keeps one."""
    keeps = error in (UnknownName, InvalidNumber)
    return [(value, (error, value) if keeps else (error,)) for value in unlike(fits, ALL + tuple(more))]


def faults(error, fault, more):
    return [(value, (error, fault(value))) for value in ALL + more if fault(value) is not None]


def start_fits(value):
    return value is None or spec.configuration(NET, value)


def run_fault(value):
    return spec.fault(NET, value, FIRST)


def path_fault(value):
    return spec.path_fault(NET, value, FIRST)


NETWORK = (0, wrong(spec.network, InvalidNetwork))
START = ("start", wrong(start_fits, InvalidConfiguration))
VIEWED = ("start", START[1] + [(LONG, (TooMany, 20)), (CROSSED, (Crossed, ()))])
CONFIGURATION = (1, wrong(lambda value: spec.configuration(NET, value), InvalidConfiguration))
MORE_RUNS = (list(RUN), RUN[:1] + (None,), RUN[:2] + RUN[:1], RUN + ((),))
MORE_PATHS = (list(PATH), PATH[:1] + (None,), PATH[:1] * 2, PATH + ((),))
WRONG_LOGS = wrong(lambda value: value == ((),) * 6, InvalidLogs, (list(LOGS), LOGS[:5], LOGS[:-1] + ((0, 0),)))


def name_at(at):
    return (at, wrong(lambda value: value in NAMES, UnknownName, ("wes", "westt", ["west"])))


def run_at(at):
    return (at, faults(InvalidRun, run_fault, MORE_RUNS))


MACHINE = (0, wrong(spec.machine, InvalidMachine))
STATE = (1, wrong(lambda value: spec.whole(value, 0, 3), InvalidNumber))
LOGS_AT = (1, WRONG_LOGS)
PATH_AT = (1, faults(InvalidPath, path_fault, MORE_PATHS))

MACHINES = (
    (machine_from, (4, MID[2], MID[1]), (
        (0, wrong(lambda value: spec.whole(value, 1, 30), InvalidNumber)),
        (1, wrong(lambda value: value == (), InvalidMachine)),
        (2, wrong(lambda value: type(value) is tuple and all(spec.whole(part, 0, 3) for part in value),
                  InvalidMachine)),
    )),
    (neighbours_of, (MID,), (MACHINE,)),
    (transitions_at, (MID, 0), (MACHINE, STATE)),
    (letters_at, (MID, 0, "send", "west"), (
        MACHINE, STATE, (2, wrong(lambda value: value in ("send", "take"), InvalidOperation)),
        (3, wrong(lambda value: value in ("east", "west"), UnknownName)),
    )),
    (reached_states, (MID,), (MACHINE,)),
    (trimmed, (MID,), (MACHINE,)),
    (machine_renamed_by, (MID, {}), (MACHINE, (1, wrong(spec.naming, InvalidOperation, ({"east": "west"},))))),
)

NETWORKS = (
    (machine_names, (NET,), (NETWORK,)),
    (machine_of, (NET, "mid"), (NETWORK, name_at(1))),
    (channels_of, (NET,), (NETWORK,)),
    (linked_to, (NET, "mid"), (NETWORK, name_at(1))),
    (trees_of, (NET,), (NETWORK,)),
    (way_between, (NET, "mid", "west"), (NETWORK, name_at(1), name_at(2))),
    (with_machine, (NET, "zero", NONE), (
        NETWORK, (2, wrong(spec.machine, InvalidMachine)), (1, wrong(spec.name, InvalidOperation, ("seventh", "mid"))),
    )),
    (without_machine, (NET, "zero"), (NETWORK, name_at(1))),
    (with_link, (NET, "zero", "mid"), (NETWORK, name_at(1), name_at(2))),
    (without_link, (NET, "zero", "mid"), (NETWORK, name_at(1), name_at(2))),
    (renamed_network_by, (NET, {}), (NETWORK, (1, wrong(spec.naming, InvalidOperation)))),
    (network_from, ({"a": NONE}, ()), (
        (0, wrong(lambda value: False, InvalidNetwork)), (1, wrong(lambda value: value == (), InvalidNetwork)),
    )),
    (is_configuration, (NET, FIRST), (NETWORK,)),
    (first_configuration, (NET,), (NETWORK,)),
    (configuration_from, (NET, None, {}), (
        NETWORK, (1, wrong(lambda value: value in (None, {}), InvalidConfiguration)),
        (2, wrong(lambda value: isinstance(value, dict) and all(isinstance(key, str) for key in value),
                  InvalidOperation) + [
            ({"nobody": 0, "mid": 7}, (UnknownName, "nobody")), ({"mid": True, "zero": 5}, (InvalidNumber, True)),
        ]),
    )),
    (queue_of, (NET, FIRST, "mid", "west"), (NETWORK, CONFIGURATION, (2, [
        (value, (InvalidOperation,)) for value in ALL + ("zero",) if value not in ("east", "west")]))),
    (letter_count, (NET, FIRST), (NETWORK, CONFIGURATION)),
    (crossed_links, (NET, FIRST), (NETWORK, CONFIGURATION)),
)

RUNS = (
    (possible_moves, (NET, FIRST), (NETWORK, CONFIGURATION)),
    (after_move, (NET, FIRST, RUN[0]), (NETWORK, CONFIGURATION, (2, wrong(lambda value: False, InvalidOperation)))),
    (is_run, (NET, RUN), (NETWORK, START)),
    (after_run, (NET, RUN), (NETWORK, START, run_at(1))),
    (configurations_on, (NET, RUN), (NETWORK, START, run_at(1))),
    (first_crossing, (NET, RUN), (NETWORK, START, run_at(1))),
    (all_runs, (NET,), (NETWORK, ("length", wrong(lambda value: spec.whole(value, 0, 60), InvalidNumber)), START)),
    (Runner, (NET,), (NETWORK, START)),
    (Runner.along, (NET, RUN, None), (NETWORK, (2, START[1]), run_at(1))),
    (logs_of, (NET, RUN), (NETWORK, START, run_at(1))),
    (is_logs, (NET, LOGS), (NETWORK, START)),
    (put_together, (NET, LOGS), (NETWORK, START, LOGS_AT)),
    (after_logs, (NET, LOGS), (NETWORK, START, LOGS_AT)),
    (is_crossing_logs, (NET, LOGS), (NETWORK, START)),
    (messages_of, (NET, LOGS), (NETWORK, START, LOGS_AT)),
    (crossing_pair, (NET, LOGS), (NETWORK, START, LOGS_AT)),
    (is_crossing_pair, (NET, LOGS, ()), (NETWORK, START, LOGS_AT)),
    (exchanged_run, (NET, RUN, 1), (
        NETWORK, START, run_at(1), (2, wrong(lambda value: spec.whole(value, 0, 1), InvalidNumber, (2, -1))),
    )),
    (exchanges_between, (NET, RUN, RUN), (NETWORK, START, run_at(1), run_at(2))),
    (is_exchanges, (NET, RUN, RUN, ()), (NETWORK, START, run_at(1), run_at(2))),
)

VIEWS = (
    (first_view, (NET,), (NETWORK, VIEWED)),
    (is_view, (NET, VIEW), (NETWORK, VIEWED)),
    (possible_acts, (NET, VIEW), (NETWORK, VIEWED, (1, wrong(lambda value: False, InvalidView)))),
    (is_exposed, (NET, VIEW), (NETWORK, (1, wrong(lambda value: False, InvalidView)))),
    (is_path, (NET, PATH), (NETWORK, VIEWED)),
    (view_after, (NET, PATH), (NETWORK, VIEWED, PATH_AT)),
    (after_path, (NET, PATH), (NETWORK, VIEWED, PATH_AT)),
    (run_of_path, (NET, PATH), (NETWORK, VIEWED, PATH_AT)),
    (weight_of, (NET, PATH), (NETWORK, VIEWED, PATH_AT)),
)


def called(arguments, keywords, values):
    """The arguments with other values at some places."""
    arguments, keywords = list(arguments), dict(keywords)
    for place, value in values:
        if isinstance(place, int):
            arguments[place] = value
        else:
            keywords[place] = value
    return arguments, keywords


class Order(Case):
    def look(self, rows):
        for function, arguments, parameters in rows:
            given = {"length": 2} if function is all_runs else {}
            for at, (place, values) in enumerate(parameters):
                for value, error in values:
                    self.raises(error, function, called(arguments, given, [(place, value)]))
                    # Everything that is checked later is wrong, too.
                    later = [(other, found[-1 - at][0]) for other, found in parameters[at + 1:]]
                    self.raises(error, function, called(arguments, given, later + [(place, value)]))
            for at, (place, values) in enumerate(parameters):
                for other, found in parameters[at + 1:]:
                    for value, error in values[::7]:
                        for last, _ in found[::11]:
                            self.raises(error, function, called(arguments, given, [(place, value), (other, last)]))

    def raises(self, error, function, call):
        self.fails(error, function, *call[0], **call[1])

    def test_right_arguments(self):
        for function, arguments, _ in MACHINES + NETWORKS + RUNS + VIEWS:
            if function is with_link or function is without_link:
                continue
            given = {"length": 2} if function is all_runs else {}
            function(*arguments, **given)

    def test_machines(self):
        self.look(MACHINES)

    def test_networks(self):
        self.look(NETWORKS)

    def test_runs(self):
        self.look(RUNS)

    def test_views(self):
        self.look(VIEWS)

    def test_start_is_checked_before_crossing(self):
        self.fails((Crossed, ()), is_path, TALKERS, None, start=BOTH)
        self.fails(InvalidConfiguration, is_path, TALKERS, None, start=BOTH[:1])


if __name__ == "__main__":
    unittest.main()
