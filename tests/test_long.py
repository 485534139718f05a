"""[3.2], [4.1] to [4.3] for runs and logs of some thousand moves, and moves that come again and again."""

import random
import unittest

from halflink.errors import InvalidLogs, InvalidRun
from halflink.machines.machines import make_machine
from halflink.networks.configurations import configuration_with
from halflink.networks.networks import make_network
from halflink.runs.logs import (
    after_logs, crossing_pair, is_crossing_logs, is_crossing_pair, is_logs, logs_of, messages_of, put_together,
)
from halflink.runs.runner import Runner
from halflink.runs.runs import after_run, configurations_on, first_crossing, is_run
from tests import spec
from tests.case import Case
from tests.samples import CALL, FLOW, NETWORKS, random_network, random_start

SENDS = make_machine(1, (0, ("send", "d", "x"), 0))
TAKES = make_machine(1, (0, ("take", "c", "x"), 0))
ROAD = make_network(("c", "d"), c=SENDS, d=TAKES)
# The machine that takes has the smaller name, so it goes on whenever it can.
BACKWARDS = make_network(("c", "d"), c=make_machine(1, (0, ("take", "d", "x"), 0)),
                         d=make_machine(1, (0, ("send", "c", "x"), 0)))
MANY = 1500
LOGS = ((0,) * MANY, (0,) * MANY)


def walk(rng, network, conf, length):
    """A random run with at most so many moves."""
    run = []
    for _ in range(length):
        found = spec.steps(network, conf)
        if not found:
            break
        move = rng.choice(sorted(found))
        run.append(move)
        conf = found[move]
    return tuple(run)


def first_joined(network, log, start):
    """The run of logs in which always the first machine that can goes on, by the words of the document."""
    run, conf, places = [], start, [0 for _ in log]
    while True:
        for at, (own, _) in enumerate(network[0]):
            if places[at] < len(log[at]) and (own, log[at][places[at]]) in spec.steps(network, conf):
                run.append((own, log[at][places[at]]))
                conf = spec.steps(network, conf)[run[-1]]
                places[at] += 1
                break
        else:
            return tuple(run) if len(run) == sum(map(len, log)) else None


class Long(Case):
    def test_road(self):
        run = (("c", 0),) * MANY + (("d", 0),) * MANY
        self.gives(run, put_together, ROAD, LOGS)
        self.gives(True, is_logs, ROAD, LOGS)
        self.gives(((0, 0), ((), ())), after_logs, ROAD, LOGS)
        self.gives(None, crossing_pair, ROAD, LOGS)
        self.gives(tuple(("c", "d", "x", at, at) for at in range(MANY)), messages_of, ROAD, LOGS)
        self.gives(True, is_run, ROAD, run)
        self.gives(((0, 0), ((), ())), after_run, ROAD, run)
        self.gives(None, first_crossing, ROAD, run)
        self.gives(LOGS, logs_of, ROAD, run)
        passed = tuple(((0, 0), (("x",) * (many if many <= MANY else 2 * MANY - many), ())) for many in
                       range(2 * MANY + 1))
        self.gives(passed, configurations_on, ROAD, run)
        self.fails((InvalidRun, 2 * MANY), after_run, ROAD, run + (("d", 0),))
        self.fails((InvalidRun, 0), after_run, ROAD, run[::-1])
        self.gives(False, is_logs, ROAD, (LOGS[0], LOGS[1] + (0,)))
        self.gives(True, is_logs, ROAD, (LOGS[0] + (0,), LOGS[1]))

    def test_smaller_name_takes(self):
        run = (("d", 0), ("c", 0)) * MANY
        self.gives(run, put_together, BACKWARDS, LOGS)
        self.gives(tuple(("d", "c", "x", at, at) for at in range(MANY)), messages_of, BACKWARDS, LOGS)
        self.gives(((0, 0), ((), ("x",))), after_logs, BACKWARDS, (LOGS[0], LOGS[1] + (0,)))

    def test_letters_of_the_start(self):
        start = configuration_with(FLOW, {("c", "d"): ("x",) * 3000 + ("y",)})
        run = (("d", 1),) * 3000
        self.gives(((0, 0), (("y",), ())), after_run, FLOW, run, start=start)
        self.fails((InvalidRun, 3000), after_run, FLOW, run + (("d", 1),), start=start)
        self.gives(run, put_together, FLOW, ((), (1,) * 3000), start=start)
        self.fails(InvalidLogs, put_together, FLOW, ((), (1,) * 3001), start=start)

    def test_crossing_comes_late(self):
        again = (("a", 0), ("b", 0), ("b", 1), ("a", 1)) * 500
        self.gives(None, first_crossing, CALL, again)
        # In this network, the first machine sends at last although a letter comes to it.
        rash = make_network(
            ("a", "b"),
            a=make_machine(3, (0, ("send", "b", "go"), 1), (1, ("take", "b", "ok"), 0), (1, ("send", "b", "go"), 2)),
            b=make_machine(2, (0, ("take", "a", "go"), 1), (1, ("send", "a", "ok"), 0)),
        )
        loop = (("a", 0), ("b", 0), ("b", 1), ("a", 2)) * 500
        self.gives(None, first_crossing, rash, loop)
        self.gives(2004, first_crossing, rash, loop + (("a", 0), ("b", 0), ("b", 1), ("a", 1)))
        start = configuration_with(rash, {("a", "b"): ("x",), ("b", "a"): ("x",)})
        self.gives(0, first_crossing, rash, (("a", 0),), start=start)

    def test_booleans_behind_equal_moves(self):
        # A move that was possible before does not let an equal one with a boolean pass.
        runs = (("c", 0), ("c", False)), (("c", 0), ("c", 0), ("c", False), ("c", 0))
        for run in runs:
            at = [k for k, move in enumerate(run) if move[1] is False][0]
            self.gives(False, is_run, FLOW, run)
            self.fails((InvalidRun, at), after_run, FLOW, run)
            self.fails((InvalidRun, at), configurations_on, FLOW, run)
            self.fails((InvalidRun, at), first_crossing, FLOW, run)
            self.fails((InvalidRun, at), Runner(FLOW).put, run)
        many = (("a", 0), ("b", 0), ("b", True), ("a", 1))
        self.gives(True, is_run, CALL, (("a", 0), ("b", 0), ("b", 1), ("a", 1)) * 2)
        self.fails((InvalidRun, 6), after_run, CALL, (("a", 0), ("b", 0), ("b", 1), ("a", 1)) + many)
        for logs in (((0, False), ()), ((False,), ()), ((0, 0, False), (1, True))):
            self.gives(False, is_logs, FLOW, logs)
            self.gives(False, is_crossing_logs, FLOW, logs)
            self.fails(InvalidLogs, put_together, FLOW, logs)
            self.fails(InvalidLogs, messages_of, FLOW, logs)
        for value in ([0], (0,), {}, None, "0", 10 ** 39, -1):
            self.gives(False, is_logs, FLOW, ((0, value), ()))
            self.fails((InvalidRun, 1), after_run, FLOW, (("c", 0), ("c", value)))
            self.fails((InvalidRun, 1), after_run, FLOW, (("c", 0), (value, 0)))

    def test_random_walks(self):
        rng = random.Random(6)
        networks = list(NETWORKS) + [random_network(seed) for seed in range(60, 90)]
        crossed = 0
        for seed, network in enumerate(networks * 2):
            start = random_start(seed, network) if seed % 2 else None
            first = start or spec.first(network)
            run = walk(rng, network, first, 30)
            passed = spec.configurations(network, run, first)
            self.gives(tuple(passed), configurations_on, network, run, start=start)
            found = [at for at, conf in enumerate(passed) if spec.crossed(network, conf)]
            self.gives(found[0] if found else None, first_crossing, network, run, start=start)
            log = spec.logs(network, run)
            self.gives(first_joined(network, log, first), put_together, network, log, start=start)
            self.gives(passed[-1], after_logs, network, log, start=start)
            self.gives(spec.messages(network, log, first), messages_of, network, log, start=start)
            pair = crossing_pair(network, log, start=start)
            self.gives(pair is not None, is_crossing_logs, network, log, start=start)
            crossed += pair is not None
            if pair is not None:
                self.gives(True, is_crossing_pair, network, log, pair, start=start)
            if log and max(map(len, log)) > 1:
                at = max(range(len(log)), key=lambda place: len(log[place]))
                for cut in (log[at][1:], log[at][::-1], log[at] + log[at][:1]):
                    other = log[:at] + (cut,) + log[at + 1:]
                    wanted = first_joined(network, other, first)
                    self.gives(wanted is not None, is_logs, network, other, start=start)
        self.assertGreater(crossed, 5)


if __name__ == "__main__":
    unittest.main()
