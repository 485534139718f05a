"""[4.1] to [4.3] and the functions of halflink.runs.logs."""

import random
import unittest
from itertools import product

from halflink.errors import (
    InvalidConfiguration, InvalidLogs, InvalidNetwork, InvalidNumber, InvalidOperation, InvalidRun,
)
from halflink.machines.machines import make_machine
from halflink.networks.configurations import configuration_with, first_configuration
from halflink.networks.networks import make_network
from halflink.runs.logs import (
    after_logs, crossing_pair, exchanged_run, exchanges_between, is_crossing_logs, is_crossing_pair, is_exchanges,
    is_logs, logs_of, messages_of, put_together,
)
from tests import spec
from tests.case import Case
from tests.samples import CALL, FLOW, LONELY, MEET, NETWORKS, TALKERS, WIDE, WORDS, random_network, random_start
from tests.test_runs import BOTH, FIRST, ROUND, WAITING, random_run
from tests.wrong import ALL, spoiled, unlike

EARLY, LATE = (("c", 0), ("d", 1), ("c", 0)), (("c", 0), ("c", 0), ("d", 1))
STARTED = configuration_with(CALL, {("a", "b"): ("go",)}, a=1)
SAID = (("q", "p", "y", 0, None), ("p", "q", "x", 0, None))

# Networks with starts, for which all short runs are looked at.
SMALL = [(network, None, 4) for network in (CALL, FLOW, MEET, LONELY, WORDS)] + [
    (TALKERS, None, 4), (TALKERS, BOTH, 4), (TALKERS, WAITING, 4), (CALL, STARTED, 4), (WIDE, None, 3),
    (MEET, configuration_with(MEET, {("p", "q"): ("x",)}), 3),
    (MEET, configuration_with(MEET, {("q", "p"): ("x",)}), 3),
] + [(random_network(seed), None, 3) for seed in range(12)] + [
    (random_network(seed), random_start(seed, random_network(seed)), 3) for seed in range(24)
]


def grouped(network, start, length):
    """All runs with at most so many moves, under their logs."""
    found = {}
    for many in range(length + 1):
        for run, _ in spec.runs(network, start or spec.first(network), many):
            found.setdefault(spec.logs(network, run), []).append(run)
    return found


def all_pairs(network, log, start):
    found = spec.messages(network, log, start or spec.first(network))
    return [(one, other) for one in found for other in found if spec.crosses(one, other)]


def wrong_logs(network, log, start):
    """Values near the logs that are no logs."""
    for value in list(ALL) + list(spoiled(log)):
        if not is_spec_logs(network, value, start):
            yield value


def is_spec_logs(network, value, start):
    """Whether there is a run with these logs, found by trying all orders."""
    if not spec.row(value, len(network[0])):
        return False
    for log, (_, machine) in zip(value, network[0]):
        if type(log) is not tuple or not all(spec.whole(index, 0, len(machine[2]) - 1) for index in log):
            return False
    level = {tuple(0 for _ in value): start}
    for _ in range(sum(map(len, value))):
        after = {}
        for places, conf in level.items():
            moves = spec.steps(network, conf)
            for at, (name, _) in enumerate(network[0]):
                if places[at] < len(value[at]) and (name, value[at][places[at]]) in moves:
                    key = places[:at] + (places[at] + 1,) + places[at + 1:]
                    after[key] = moves[name, value[at][places[at]]]
        level = after
    return bool(level)


class Logs(Case):
    def test_document(self):
        self.same([logs_of(CALL, (("a", 0), ("b", 0))), is_logs(CALL, ((), (0,))), is_logs(CALL, ((0, 1), (0, 1)))],
                  [((0,), (0,)), False, True])
        self.same([put_together(CALL, ((0, 1), (0, 1))), after_logs(FLOW, ((0, 0), (1,))),
                   is_crossing_logs(MEET, ((0,), (0,)))],
                  [(("a", 0), ("b", 0), ("b", 1), ("a", 1)), ((0, 0), (("x",), ())), True])

    def test_no_moves(self):
        for network in NETWORKS:
            empty = tuple(() for _ in network[0])
            self.gives(empty, logs_of, network, ())
            self.gives(True, is_logs, network, empty)
            self.gives((), put_together, network, empty)
            self.gives(first_configuration(network), after_logs, network, empty)
            self.gives(False, is_crossing_logs, network, empty)
            self.gives((), messages_of, network, empty)
            self.gives(None, crossing_pair, network, empty)

    def test_all_short_runs(self):
        for network, start, length in SMALL:
            first = start or spec.first(network)
            for log, runs in grouped(network, start, length).items():
                for run in runs:
                    self.same(logs_of(network, run, start=start), log)
                self.gives(log, logs_of, network, runs[-1], start=start)
                self.gives(True, is_logs, network, log, start=start)
                # As each machine's moves are given, the least run is the one that always goes on with the first.
                self.gives(min(runs), put_together, network, log, start=start)
                self.gives(spec.configurations(network, runs[0], first)[-1], after_logs, network, log, start=start)

    def test_crossings_of_short_runs(self):
        many = 0
        for network, start, length in SMALL:
            first = start or spec.first(network)
            for log, runs in grouped(network, start, length).items():
                crossing = {any(spec.crossed(network, conf) for conf in spec.configurations(network, run, first))
                            for run in runs}
                pairs = all_pairs(network, log, start)
                self.assertEqual(crossing, {bool(pairs)})
                self.gives(bool(pairs), is_crossing_logs, network, log, start=start)
                self.gives(spec.messages(network, log, first), messages_of, network, log, start=start)
                found = self.unchanged(crossing_pair, (network, log), {"start": start})
                if pairs:
                    self.assertIn(found, pairs)
                    self.gives(True, is_crossing_pair, network, log, found, start=start)
                    many += 1
                else:
                    self.assertIsNone(found)
        self.assertGreater(many, 100)

    def test_all_indices(self):
        for network, start in ((CALL, None), (TALKERS, None), (TALKERS, BOTH), (FLOW, None)):
            found = grouped(network, start, 4)
            rows = [[log for many in range(3) for log in product(range(len(machine[2])), repeat=many)]
                    for _, machine in network[0]]
            for value in product(*rows):
                self.gives(value in found, is_logs, network, value, start=start)

    def test_orders(self):
        for seed in range(40):
            network = random_network(seed)
            start = random_start(seed, network)
            run = random_run(seed, network, start, 14)
            log = spec.logs(network, run)
            self.gives(log, logs_of, network, run, start=start)
            self.gives(True, is_logs, network, log, start=start)
            joined = put_together(network, log, start=start)
            self.assertIsNone(spec.fault(network, joined, start))
            self.same(spec.logs(network, joined), log)
            self.same(after_logs(network, log, start=start), spec.configurations(network, run, start)[-1])
            self.same(bool(all_pairs(network, log, start)), is_crossing_logs(network, log, start=start))

    def test_from_a_start(self):
        self.gives(True, is_logs, CALL, ((1,), (0, 1)), start=STARTED)
        self.gives(False, is_logs, CALL, ((1,), (0, 1)))
        self.gives(False, is_logs, CALL, ((0, 1), (0, 1)), start=STARTED)
        self.gives((("b", 0), ("b", 1), ("a", 1)), put_together, CALL, ((1,), (0, 1)), start=STARTED)
        self.gives(((0, 0), ((), ())), after_logs, CALL, ((1,), (0, 1)), start=STARTED)
        self.gives(True, is_crossing_logs, TALKERS, ((), ()), start=BOTH)
        self.gives(False, is_crossing_logs, TALKERS, ((), ()), start=WAITING)

    def test_put_together_goes_back_to_the_first(self):
        # The second machine goes on only where the first one has to wait.
        self.gives((("a", 0), ("b", 0), ("b", 1), ("a", 1), ("a", 0), ("b", 0)), put_together, CALL,
                   ((0, 1, 0), (0, 1, 0)))
        self.gives((("c", 0), ("c", 0), ("d", 1), ("d", 1), ("d", 0)), put_together, FLOW, ((0, 0), (1, 1, 0)))
        self.gives((("d", 1), ("d", 0)), put_together, FLOW, ((), (1, 0)), start=((0, 0), (("x",), ())))

    def test_every_value(self):
        for network, start in ((CALL, None), (LONELY, None), (TALKERS, BOTH), (CALL, STARTED)):
            first = start or spec.first(network)
            for value in ALL:
                self.gives(is_spec_logs(network, value, first), is_logs, network, value, start=start)
        for log in (((0, 1), (0,)), ((), ()), ((0,), (0, 1))):
            for value in spoiled(log):
                wanted = is_spec_logs(CALL, value, FIRST)
                self.gives(wanted, is_logs, CALL, value)
                if not wanted:
                    self.gives(False, is_crossing_logs, CALL, value)

    def test_wrong_logs(self):
        for value in wrong_logs(CALL, ((0, 1), (0, 1)), FIRST):
            for function in (put_together, after_logs, messages_of, crossing_pair):
                self.fails(InvalidLogs, function, CALL, value)
            self.fails(InvalidLogs, is_crossing_pair, CALL, value, None)
            self.gives(False, is_crossing_logs, CALL, value)
        for value in wrong_logs(TALKERS, ((1, 0), (1,)), BOTH):
            for function in (put_together, after_logs, messages_of, crossing_pair):
                self.fails(InvalidLogs, function, TALKERS, value, start=BOTH)
            self.gives(False, is_crossing_logs, TALKERS, value, start=BOTH)

    def test_wrong_runs(self):
        for value in ALL + tuple(spoiled(ROUND)):
            fault = spec.fault(CALL, value, FIRST)
            if fault is not None:
                self.fails((InvalidRun, fault), logs_of, CALL, value)
        self.fails((InvalidRun, 3), logs_of, CALL, ROUND[1:] * 2, start=STARTED)

    def test_start_comes_before_runs_and_logs(self):
        for value in unlike(lambda part: part is None or spec.configuration(CALL, part)):
            for function in (logs_of, is_logs, put_together, after_logs, is_crossing_logs, messages_of, crossing_pair):
                self.fails(InvalidConfiguration, function, CALL, None, start=value)
            self.fails(InvalidConfiguration, is_crossing_pair, CALL, None, None, start=value)
            self.fails(InvalidConfiguration, exchanged_run, CALL, None, None, start=value)
            self.fails(InvalidConfiguration, exchanges_between, CALL, None, None, start=value)
            self.fails(InvalidConfiguration, is_exchanges, CALL, None, None, None, start=value)

    def test_networks_come_first(self):
        for value in unlike(spec.network):
            for function in (logs_of, is_logs, put_together, after_logs, is_crossing_logs, messages_of, crossing_pair):
                self.fails(InvalidNetwork, function, value, None, start=0)
            self.fails(InvalidNetwork, is_crossing_pair, value, None, None, start=0)
            self.fails(InvalidNetwork, exchanged_run, value, None, None, start=0)
            self.fails(InvalidNetwork, exchanges_between, value, None, None, start=0)
            self.fails(InvalidNetwork, is_exchanges, value, None, None, None, start=0)

    def test_thousands(self):
        log = ((0,) * 4000, (1,) * 3000 + (0,))
        joined = put_together(FLOW, log)
        self.assertEqual(joined, (("c", 0),) * 4000 + (("d", 1),) * 3000 + (("d", 0),))
        self.gives(log, logs_of, FLOW, joined)
        self.gives(True, is_logs, FLOW, log)
        self.gives(False, is_logs, FLOW, ((0,) * 2999, log[1]))
        self.gives(((0, 1), (("x",) * 1000, ())), after_logs, FLOW, log)
        self.gives(False, is_crossing_logs, FLOW, log)
        found = messages_of(FLOW, log)
        self.assertEqual(found, tuple(("c", "d", "x", at, at if at < 3000 else None) for at in range(4000)))
        self.gives(None, crossing_pair, FLOW, log)
        rounds = ((0, 1) * 1000, (0, 1) * 1000)
        self.assertEqual(put_together(CALL, rounds), ROUND * 1000)
        self.gives(False, is_crossing_logs, CALL, rounds)

    def test_thousands_with_one_crossing(self):
        talk = make_network(
            ("l", "r"),
            l=make_machine(3, (0, ("send", "r", "x"), 0), (0, ("step",), 1), (1, ("take", "r", "y"), 1)),
            r=make_machine(3, (0, ("take", "l", "x"), 0), (0, ("send", "l", "y"), 1), (1, ("take", "l", "x"), 1)),
        )
        # The left one sends all of its letters before the first one comes back.
        left = (0,) * 2000 + (1, 2)
        calm = (left, (1,) * 2000 + (0,))
        self.gives(False, is_crossing_logs, talk, calm)
        self.gives(None, crossing_pair, talk, calm)
        met = (left, (1,) * 1999 + (0, 2))
        self.gives(True, is_crossing_logs, talk, met)
        pair = (("l", "r", "x", 1999, 2000), ("r", "l", "y", 1999, 2001))
        self.assertIn(crossing_pair(talk, met), (pair, pair[::-1]))
        self.gives(True, is_crossing_pair, talk, met, pair)
        self.gives(False, is_crossing_pair, talk, met, (("l", "r", "x", 1998, 1998), pair[1]))


class Messages(Case):
    def test_document(self):
        self.gives((("c", "d", "x", 0, 0), ("c", "d", "x", 1, None)), messages_of, FLOW, ((0, 0), (1,)))
        self.same([crossing_pair(FLOW, ((0, 0), (1,))), is_crossing_pair(MEET, ((0,), (0,)), SAID)], [None, True])

    def test_letters_of_the_start(self):
        start = configuration_with(TALKERS, {("u", "v"): ("x", "y", "x")}, v=0)
        # v takes x, sends y, and takes y; u sends x behind the letters of the start.
        self.gives((("u", "v", "x", None, 0), ("u", "v", "y", None, 2), ("u", "v", "x", None, None),
                    ("u", "v", "x", 0, None), ("v", "u", "y", 1, None)),
                   messages_of, TALKERS, ((0,), (1, 0, 3)), start=start)
        self.gives((("a", "b", "go", None, None),), messages_of, CALL, ((), ()), start=STARTED)
        self.gives((("a", "b", "go", None, 0), ("b", "a", "ok", 1, 0)), messages_of, CALL, ((1,), (0, 1)),
                   start=STARTED)

    def test_order(self):
        self.gives((("east", "mid", "no", 1, 2), ("left", "right", "x", 0, None), ("mid", "east", "go", 1, 0),
                    ("mid", "west", "ok", 3, 1), ("west", "mid", "go", 0, 0)),
                   messages_of, WIDE, ((0, 1), (0,), (0, 1, 2, 4), (), (0, 2), ()))

    def test_positions_are_those_of_the_log(self):
        # Steps and deeds with others count, too.
        self.gives((("left", "right", "x", 0, None), ("left", "right", "x", 1, None), ("west", "mid", "go", 0, None)),
                   messages_of, WIDE, ((), (0, 0), (), (), (0, 1, 1), (0,)))

    def test_which_pair(self):
        log = ((0,), (0,))
        for value in (SAID, SAID[::-1]):
            self.gives(True, is_crossing_pair, MEET, log, value)
        self.assertIn(crossing_pair(MEET, log), (SAID, SAID[::-1]))
        for value in list(ALL) + list(spoiled(SAID)) + [SAID[:1] * 2, SAID[1:] * 2, list(SAID), SAID + SAID[:1]]:
            wanted = type(value) is tuple and repr(value) in (repr(SAID), repr(SAID[::-1]))
            self.gives(wanted, is_crossing_pair, MEET, log, value)

    def test_booleans_are_no_positions(self):
        false = (("q", "p", "y", False, None), ("p", "q", "x", 0, None))
        self.gives(False, is_crossing_pair, MEET, ((0,), (0,)), false)
        self.gives(False, is_crossing_pair, MEET, ((0,), (0,)), false[::-1])

    def test_all_pairs_of_messages(self):
        for network, start, length in SMALL:
            for log in list(grouped(network, start, length))[::3]:
                found = spec.messages(network, log, start or spec.first(network))
                for one in found:
                    for other in found:
                        wanted = spec.crosses(one, other)
                        self.gives(wanted, is_crossing_pair, network, log, (one, other), start=start)

    def test_messages_of_the_start(self):
        pair = (("u", "v", "x", None, None), ("v", "u", "y", None, None))
        self.gives(True, is_crossing_pair, TALKERS, ((), ()), pair, start=BOTH)
        self.gives(True, is_crossing_pair, TALKERS, ((), ()), pair[::-1], start=BOTH)
        self.gives(False, is_crossing_pair, TALKERS, ((1,), ()), pair, start=BOTH)
        taken = (("u", "v", "x", None, None), ("v", "u", "y", None, 0))
        self.gives(True, is_crossing_pair, TALKERS, ((1,), ()), taken, start=BOTH)
        # Everything at the start is there before anything is taken.
        both = (("u", "v", "x", None, 0), ("v", "u", "y", None, 0))
        self.gives(True, is_crossing_pair, TALKERS, ((1,), (1,)), both, start=BOTH)
        self.gives(True, is_crossing_logs, TALKERS, ((1,), (1,)), start=BOTH)

    def test_other_links_do_not_cross(self):
        network = make_network(
            ("a", "m"), ("m", "z"), a=make_machine(1, (0, ("send", "m", "x"), 0)),
            m=make_machine(1, (0, ("send", "z", "x"), 0)),
            z=make_machine(1, (0, ("send", "m", "x"), 0)),
        )
        log = ((0,), (), (0,))
        self.gives(False, is_crossing_logs, network, log)
        pair = (("a", "m", "x", 0, None), ("z", "m", "x", 0, None))
        self.gives(False, is_crossing_pair, network, log, pair)
        self.gives(None, crossing_pair, network, log)
        self.gives(True, is_crossing_logs, network, ((0,), (0,), (0,)))

    def test_a_value_that_is_no_pair_comes_after_wrong_logs(self):
        self.fails(InvalidLogs, is_crossing_pair, MEET, ((0, 0), (0,)), SAID)
        self.gives(False, is_crossing_pair, MEET, ((0,), ()), SAID)


class Exchanged(Case):
    def test_document(self):
        self.same([exchanged_run(FLOW, LATE, 1) == EARLY, exchanges_between(FLOW, LATE, EARLY),
                   is_exchanges(FLOW, EARLY, LATE, (1, 1, 1))], [True, (1,), True])

    def neighbours(self, network, run, start):
        """The runs behind all possible exchanges, under their positions."""
        found = {}
        for at in range(len(run) - 1):
            value = run[:at] + (run[at + 1], run[at]) + run[at + 2:]
            if run[at][0] != run[at + 1][0] and spec.fault(network, value, start) is None:
                found[at] = value
        return found

    def test_all_short_runs(self):
        for network, start, length in SMALL[:12] + SMALL[20:]:
            first = start or spec.first(network)
            for runs in grouped(network, start, length).values():
                for run in runs[:6]:
                    found = self.neighbours(network, run, first)
                    for at in range(len(run) - 1):
                        if at in found:
                            self.gives(found[at], exchanged_run, network, run, at, start=start)
                        else:
                            self.fails(InvalidOperation, exchanged_run, network, run, at, start=start)

    def test_wrong_positions(self):
        for run in ((), LATE[:1], LATE[:2], LATE):
            for at in unlike(lambda value: spec.whole(value, 0, len(run) - 2)) + [-1, len(run) - 1, len(run)]:
                self.fails((InvalidNumber, at), exchanged_run, FLOW, run, at)

    def test_wrong_exchanges(self):
        self.fails(InvalidOperation, exchanged_run, FLOW, LATE, 0)
        self.fails(InvalidOperation, exchanged_run, FLOW, EARLY, 0)
        self.fails(InvalidOperation, exchanged_run, CALL, ROUND, 0)
        self.fails(InvalidOperation, exchanged_run, CALL, ROUND, 1)
        self.fails(InvalidOperation, exchanged_run, CALL, ROUND, 2)
        # The same letter lies there already, so it is another letter that is taken.
        start = configuration_with(FLOW, {("c", "d"): ("x",)})
        self.gives((("d", 1), ("c", 0)), exchanged_run, FLOW, (("c", 0), ("d", 1)), 0, start=start)

    def test_runs_come_before_positions(self):
        for value in ALL:
            fault = spec.fault(FLOW, value, spec.first(FLOW))
            if fault is not None:
                self.fails((InvalidRun, fault), exchanged_run, FLOW, value, None)
                self.fails((InvalidRun, fault), exchanged_run, FLOW, value, 0)
        self.fails((InvalidRun, 1), exchanged_run, FLOW, LATE[:1] + (("d", 5),), 7)

    def distances(self, network, run, start):
        """The least number of exchanges to each run with the same logs."""
        found, level = {run: 0}, [run]
        while level:
            level = sorted({value for part in level for value in self.neighbours(network, part, start).values()
                            if value not in found})
            many = max(found.values()) + 1
            found.update((value, many) for value in level)
        return found

    def test_shortest(self):
        groups = 0
        for network, start, length in SMALL:
            first = start or spec.first(network)
            for runs in list(grouped(network, start, length).values())[::4]:
                found = self.distances(network, runs[0], first)
                self.assertEqual(set(found), set(runs))
                groups += len(runs) > 1
                for run in runs[:8]:
                    value = self.unchanged(exchanges_between, (network, runs[0], run), {"start": start})
                    self.assertIs(type(value), tuple)
                    self.assertTrue(all(type(at) is int for at in value))
                    self.assertEqual(len(value), found[run])
                    self.follow(network, runs[0], run, value, first)
                    self.gives(True, is_exchanges, network, runs[0], run, value, start=start)
        self.assertGreater(groups, 40)

    def follow(self, network, run, wanted, positions, start):
        for at in positions:
            run = self.neighbours(network, run, start)[at]
        self.assertEqual(run, wanted)

    def test_all_tuples_of_positions(self):
        apart = (("left", 0), ("right", 0), ("zero", 0), ("west", 0))
        run = (("left", 0), ("zero", 0), ("right", 0), ("west", 0))
        for network, one, other, start in ((FLOW, LATE, EARLY, None), (WIDE, apart, run, None),
                                           (FLOW, LATE, LATE, None), (CALL, ROUND, ROUND, None),
                                           (FLOW, EARLY, EARLY[1:2] + EARLY[:1] + EARLY[2:],
                                            configuration_with(FLOW, {("c", "d"): ("x",)}))):
            first = start or spec.first(network)
            for many in range(4):
                for value in product(range(-1, 4), repeat=many):
                    now = one
                    for at in value:
                        now = now and self.neighbours(network, now, first).get(at)
                    self.gives(now == other, is_exchanges, network, one, other, value, start=start)

    def test_long_and_not_shortest(self):
        one = (("left", 0),) * 4 + (("zero", 0),)
        other = one[4:] + one[:4]
        self.same(exchanges_between(WIDE, one, other), (3, 2, 1, 0))
        self.gives(True, is_exchanges, WIDE, one, other, (3, 2, 1, 0))
        self.gives(True, is_exchanges, WIDE, one, other, (3, 3, 3, 2, 2, 2, 1, 0, 0, 0))
        self.gives(False, is_exchanges, WIDE, one, other, (3, 2, 1))
        self.gives(False, is_exchanges, WIDE, one, other, (3, 2, 1, 0, 0))
        self.gives(False, is_exchanges, WIDE, one, other, (0, 1, 2, 3))
        self.gives(True, is_exchanges, WIDE, one, one, ())
        self.gives(True, is_exchanges, WIDE, one, one, (3,) * 2000)
        self.gives(False, is_exchanges, WIDE, one, one, (3,) * 2001)
        self.gives(False, is_exchanges, WIDE, one, other, ())

    def test_thousands(self):
        one = (("c", 0),) * 150 + (("d", 1),) * 150
        other = (("c", 0), ("d", 1)) * 150
        found = exchanges_between(FLOW, one, other)
        self.assertEqual(len(found), 149 * 150 // 2)
        self.gives(True, is_exchanges, FLOW, one, other, found)
        self.gives(True, is_exchanges, FLOW, other, one, found[::-1])
        self.gives(False, is_exchanges, FLOW, one, other, found[:-1])
        self.gives(False, is_exchanges, FLOW, one, other, found[::-1])

    def test_every_value(self):
        for value in list(ALL) + list(spoiled((1, 1, 1))) + [[1], (True,), ("1",), (1, None, 1), {1: 1}, (1, True, 1)]:
            fits = type(value) is tuple and all(type(at) is int for at in value)
            wanted = fits and set(value) == {1} and len(value) % 2 == 1
            self.gives(wanted, is_exchanges, FLOW, EARLY, LATE, value)

    def test_wrong_runs_in_order(self):
        for value in ALL:
            fault = spec.fault(FLOW, value, spec.first(FLOW))
            if fault is not None:
                self.fails((InvalidRun, fault), exchanges_between, FLOW, value, None)
                self.fails((InvalidRun, fault), exchanges_between, FLOW, EARLY, value)
                self.fails((InvalidRun, fault), is_exchanges, FLOW, value, None, ())
                self.fails((InvalidRun, fault), is_exchanges, FLOW, EARLY, value, None)
        self.fails((InvalidRun, 2), exchanges_between, FLOW, EARLY[:2] * 1 + (("d", 1),), ())
        self.fails((InvalidRun, 1), exchanges_between, FLOW, (("c", 0), None), (None,))
        self.fails((InvalidRun, 3), is_exchanges, FLOW, EARLY, EARLY + ([],), ())

    def test_logs_that_differ(self):
        for other in ((), EARLY[:2], EARLY + (("d", 0),), (("c", 0), ("c", 0), ("d", 0)), (("c", 0),) * 3):
            self.fails(InvalidLogs, exchanges_between, FLOW, EARLY, other)
            self.fails(InvalidLogs, exchanges_between, FLOW, other, EARLY)
            self.fails(InvalidLogs, is_exchanges, FLOW, EARLY, other, (1,))
            self.fails(InvalidLogs, is_exchanges, FLOW, other, EARLY, None)

    def test_random(self):
        for seed in range(30):
            rng = random.Random(seed)
            network = random_network(seed)
            start = random_start(seed, network)
            one = other = random_run(seed, network, start, 12)
            for _ in range(20):
                found = self.neighbours(network, other, start)
                if found:
                    other = found[rng.choice(sorted(found))]
            value = exchanges_between(network, one, other, start=start)
            self.follow(network, one, other, value, start)
            self.gives(True, is_exchanges, network, one, other, value, start=start)
            self.gives(True, is_exchanges, network, other, one, value[::-1], start=start)
            self.same(len(exchanges_between(network, other, one, start=start)), len(value))


if __name__ == "__main__":
    unittest.main()
