"""[3.1], [3.2] and the functions of halflink.runs.runs."""

import random
import unittest
from itertools import islice

from halflink.errors import InvalidConfiguration, InvalidNetwork, InvalidNumber, InvalidOperation, InvalidRun
from halflink.machines.machines import make_machine
from halflink.networks.configurations import configuration_with, first_configuration
from halflink.networks.networks import make_network
from halflink.runs import runs
from halflink.runs.runs import (
    after_move, after_run, all_runs, configurations_on, first_crossing, is_run, possible_moves,
)
from tests import spec
from tests.case import Case
from tests.samples import (
    CALL, FLOW, LONELY, MEET, NETWORKS, NONE, STEPS, TALKERS, WIDE, random_network, random_start,
)
from tests.wrong import ALL, FEW, spoiled, unlike

FIRST = first_configuration(CALL)
ROUND = (("a", 0), ("b", 0), ("b", 1), ("a", 1))
BOTH = configuration_with(TALKERS, {("u", "v"): ("x", "y"), ("v", "u"): ("y",)})
WAITING = configuration_with(TALKERS, {("u", "v"): ("x", "y", "x")}, v=1)


def wrong_moves(network, conf):
    """Values that are no possible moves, those that are nearly possible ones among them."""
    found = list(ALL) + [(name, index) for name, _ in network[0] for index in range(-2, 6)]
    for move in spec.steps(network, conf):
        found += list(spoiled(move)) + [move + (0,), [move], (move,)]
    return [value for value in found if spec.fault(network, (value,), conf) is not None]


def random_run(seed, network, start, length):
    rng = random.Random(seed)
    run, conf = (), start
    for _ in range(length):
        found = sorted(spec.steps(network, conf).items())
        if found:
            move, conf = rng.choice(found)
            run += (move,)
    return run


class Moves(Case):
    def test_document(self):
        self.same([list(possible_moves(CALL, FIRST)), after_move(CALL, FIRST, ("a", 0))],
                  [[("a", 0)], ((1, 0), (("go",), ()))])

    def test_sends_steps_and_takes(self):
        self.gives([("c", 0), ("d", 0)], possible_moves, FLOW, first_configuration(FLOW))
        full = configuration_with(FLOW, {("c", "d"): ("x", "y")})
        self.gives([("c", 0), ("d", 0), ("d", 1)], possible_moves, FLOW, full)
        self.gives(((0, 0), (("x", "y", "x"), ())), after_move, FLOW, full, ("c", 0))
        self.gives(((0, 1), (("x", "y"), ())), after_move, FLOW, full, ("d", 0))
        self.gives(((0, 0), (("y",), ())), after_move, FLOW, full, ("d", 1))

    def test_only_the_first_letter_is_taken(self):
        last = configuration_with(FLOW, {("c", "d"): ("y", "x")})
        self.gives([("c", 0), ("d", 0)], possible_moves, FLOW, last)
        self.fails(InvalidOperation, after_move, FLOW, last, ("d", 1))

    def test_the_right_queue(self):
        # The letter lies in the other direction, or in the queue of another link.
        self.gives([], possible_moves, CALL, configuration_with(CALL, {("a", "b"): ("ok",)}, a=1))
        self.gives([("a", 1)], possible_moves, CALL, configuration_with(CALL, {("b", "a"): ("ok",)}, a=1))
        lost = configuration_with(WIDE, {("west", "mid"): ("no",)}, mid=2, west=1, zero=1)
        self.gives([("left", 0), ("west", 1)], possible_moves, WIDE, lost)
        found = configuration_with(WIDE, {("east", "mid"): ("no",)}, mid=2, west=1, zero=1)
        self.gives([("left", 0), ("mid", 2), ("west", 1)], possible_moves, WIDE, found)

    def test_none(self):
        self.gives([], possible_moves, LONELY, first_configuration(LONELY))
        self.gives([], possible_moves, CALL, ((1, 0), ((), ())))
        self.fails(InvalidOperation, after_move, LONELY, first_configuration(LONELY), ("a", 0))

    def test_ascending(self):
        many = make_machine(1, *[(0, ("send", "a", letter), 0) for letter in "abcdefghijkl"])
        network = make_network(("a", "b"), a=NONE, b=many, c=make_machine(1, (0, ("step",), 0)))
        self.gives([("b", index) for index in range(12)] + [("c", 0)],
                   possible_moves, network, first_configuration(network))

    def test_every_configuration_nearby(self):
        for network in NETWORKS:
            for _, conf in spec.runs(network, spec.first(network), 3)[:200]:
                found = spec.steps(network, conf)
                self.gives(sorted(found), possible_moves, network, conf)
                for move, behind in found.items():
                    self.gives(behind, after_move, network, conf, move)

    def test_random(self):
        for seed in range(80):
            network = random_network(seed)
            conf = random_start(seed, network)
            found = spec.steps(network, conf)
            self.gives(sorted(found), possible_moves, network, conf)
            for move, behind in found.items():
                self.gives(behind, after_move, network, conf, move)
            for name, machine in network[0]:
                for index in range(len(machine[2]) + 1):
                    if (name, index) not in found:
                        self.fails(InvalidOperation, after_move, network, conf, (name, index))

    def test_wrong_moves(self):
        for network, conf in ((CALL, FIRST), (TALKERS, BOTH), (FLOW, first_configuration(FLOW))):
            for value in wrong_moves(network, conf):
                self.fails(InvalidOperation, after_move, network, conf, value)

    def test_booleans_are_no_indices(self):
        conf = first_configuration(FLOW)
        self.fails(InvalidOperation, after_move, FLOW, conf, ("d", False))
        self.fails(InvalidOperation, after_move, FLOW, conf, ["d", 0])
        self.fails(InvalidOperation, after_move, FLOW, conf, ("d", -1))
        self.fails(InvalidOperation, after_move, FLOW, conf, ("d", 0, 0))

    def test_wrong_configurations_come_before_moves(self):
        for value in ALL + tuple(spoiled(((1, 0), (("go",), ())), FEW)):
            if not spec.configuration(CALL, value):
                self.fails(InvalidConfiguration, possible_moves, CALL, value)
                self.fails(InvalidConfiguration, after_move, CALL, value, None)

    def test_wrong_networks_come_first(self):
        for value in unlike(spec.network):
            self.fails(InvalidNetwork, possible_moves, value, None)
            self.fails(InvalidNetwork, after_move, value, None, None)


class Runs(Case):
    def test_document(self):
        self.same([after_run(CALL, (("a", 0), ("b", 0), ("b", 1))), is_run(CALL, (("b", 0),)),
                   is_run(CALL, (("b", 0),), start=configuration_with(CALL, {("a", "b"): ("go",)}))],
                  [((1, 0), ((), ("ok",))), False, True])

    def test_rounds(self):
        self.gives(FIRST, after_run, CALL, ROUND)
        self.gives(FIRST, after_run, CALL, ROUND * 3)
        self.gives(True, is_run, CALL, ROUND * 3 + ROUND[:2])
        self.gives(False, is_run, CALL, ROUND * 3 + ROUND[1:2])
        self.gives((FIRST, ((1, 0), (("go",), ())), ((1, 1), ((), ())), ((1, 0), ((), ("ok",))), FIRST),
                   configurations_on, CALL, ROUND)

    def test_without_moves(self):
        for network in NETWORKS:
            first = first_configuration(network)
            for start in (None, first):
                self.gives(True, is_run, network, (), start=start)
                self.gives(first, after_run, network, (), start=start)
                self.gives((first,), configurations_on, network, (), start=start)
        self.gives(BOTH, after_run, TALKERS, (), start=BOTH)
        self.gives((BOTH,), configurations_on, TALKERS, (), start=BOTH)

    def test_from_a_start(self):
        start = configuration_with(CALL, {("a", "b"): ("go", "go")}, a=1)
        self.gives(((0, 0), (("go",), ())), after_run, CALL, ROUND[1:], start=start)
        self.gives((start, ((1, 1), (("go",), ())), ((1, 0), (("go",), ("ok",)))),
                   configurations_on, CALL, ROUND[1:3], start=start)
        self.gives(False, is_run, CALL, ROUND, start=start)
        self.gives(True, is_run, CALL, ROUND, start=None)
        self.fails((InvalidRun, 0), after_run, CALL, ROUND, start=start)

    def test_from_a_crossed_start(self):
        self.gives(((0, 0), (("y",), ())), after_run, TALKERS, (("u", 1), ("v", 1)), start=BOTH)
        self.gives(True, is_run, TALKERS, (("v", 1), ("u", 1)), start=BOTH)
        self.gives(False, is_run, TALKERS, (("v", 1), ("v", 1)), start=BOTH)

    def test_all_short_runs(self):
        for network, start in [(network, None) for network in NETWORKS] + [(TALKERS, BOTH), (TALKERS, WAITING)]:
            first = start or spec.first(network)
            for run, conf in spec.runs(network, first, 3):
                self.gives(True, is_run, network, run, start=start)
                self.gives(conf, after_run, network, run, start=start)
                wanted = tuple(spec.configurations(network, run, first))
                self.gives(wanted, configurations_on, network, run, start=start)

    def test_random(self):
        for seed in range(80):
            network = random_network(seed)
            start = random_start(seed, network)
            run = random_run(seed, network, start, 12)
            wanted = spec.configurations(network, run, start)
            self.gives(True, is_run, network, run, start=start)
            self.gives(wanted[-1], after_run, network, run, start=start)
            self.gives(tuple(wanted), configurations_on, network, run, start=start)
            for at in range(len(run)):
                for value in (run[:at] + run[at + 1:], run[:at] + (("a", 7),) + run[at:], run[at:], run[::-1]):
                    fault = spec.fault(network, value, start)
                    self.gives(fault is None, is_run, network, value, start=start)
                    if fault is not None:
                        self.fails((InvalidRun, fault), after_run, network, value, start=start)
                        self.fails((InvalidRun, fault), configurations_on, network, value, start=start)
                        self.fails((InvalidRun, fault), first_crossing, network, value, start=start)

    def test_where_a_run_ends(self):
        for at in range(9):
            run = (ROUND * 3)[:at]
            for value in wrong_moves(CALL, after_run(CALL, run))[::5]:
                wrong = run + (value,) + ROUND
                self.gives(False, is_run, CALL, wrong)
                self.fails((InvalidRun, at), after_run, CALL, wrong)
                self.fails((InvalidRun, at), configurations_on, CALL, wrong)
                self.fails((InvalidRun, at), first_crossing, CALL, wrong)

    def test_what_is_no_tuple(self):
        for value in ALL:
            if not isinstance(value, tuple):
                self.gives(False, is_run, CALL, value)
                for function in (after_run, configurations_on, first_crossing):
                    self.fails((InvalidRun, 0), function, CALL, value)
        for value in (list(ROUND), {0: ("a", 0)}, dict.fromkeys(ROUND)):
            self.gives(False, is_run, CALL, value)
            self.fails((InvalidRun, 0), after_run, CALL, value)

    def test_every_value(self):
        for value in ALL + tuple(spoiled(ROUND)) + tuple(spoiled(ROUND + ROUND[:1])):
            fault = spec.fault(CALL, value, FIRST)
            self.gives(fault is None, is_run, CALL, value)
            if fault is not None:
                self.fails((InvalidRun, fault), after_run, CALL, value)

    def test_starts_come_before_runs(self):
        for value in ALL + tuple(spoiled(((1, 0), (("go",), ())), FEW)):
            if value is not None and not spec.configuration(CALL, value):
                for function in (is_run, after_run, configurations_on, first_crossing):
                    self.fails(InvalidConfiguration, function, CALL, None, start=value)
                    self.fails(InvalidConfiguration, function, CALL, ROUND, start=value)

    def test_networks_come_first(self):
        for value in unlike(spec.network):
            for function in (is_run, after_run, configurations_on, first_crossing):
                self.fails(InvalidNetwork, function, value, None, start=0)

    def test_long(self):
        run = (("c", 0),) * 3000 + (("d", 1),) * 3000
        self.gives(first_configuration(FLOW), after_run, FLOW, run)
        self.gives(True, is_run, FLOW, run)
        self.gives(False, is_run, FLOW, run + (("d", 1),))
        self.fails((InvalidRun, 6000), after_run, FLOW, run + (("d", 1),))
        self.gives(((0, 0), (("x",) * 3000, ())), after_run, FLOW, run[:3000])

    def test_long_queues(self):
        start = configuration_with(FLOW, {("c", "d"): ("x",) * 20000, ("d", "c"): ("z",) * 20000})
        self.gives(((0, 1), (("x",) * 19999, ("z",) * 20000)), after_run, FLOW, (("d", 1), ("d", 0)), start=start)


class FirstCrossing(Case):
    def test_document(self):
        self.same([first_crossing(MEET, (("p", 0), ("q", 0))), first_crossing(MEET, (("p", 0), ("q", 1)))], [2, None])

    def test_least(self):
        self.gives(None, first_crossing, MEET, ())
        self.gives(None, first_crossing, MEET, (("p", 0),))
        self.gives(2, first_crossing, MEET, (("q", 0), ("p", 0)))
        self.gives(None, first_crossing, CALL, ROUND * 5)
        self.gives(2, first_crossing, TALKERS, (("u", 0), ("v", 0), ("u", 2), ("v", 2)))

    def test_a_crossing_that_is_over(self):
        run = (("v", 0), ("u", 0), ("v", 3))
        self.fails((InvalidRun, 2), first_crossing, TALKERS, run)
        over = (("u", 0), ("v", 0), ("v", 2), ("v", 1))
        self.gives(2, first_crossing, TALKERS, over)
        self.same(spec.crossed(TALKERS, after_run(TALKERS, over)), [])

    def test_at_the_start(self):
        self.gives(0, first_crossing, TALKERS, (), start=BOTH)
        self.gives(0, first_crossing, TALKERS, (("u", 1),), start=BOTH)
        self.gives(None, first_crossing, TALKERS, (), start=WAITING)
        self.gives(2, first_crossing, TALKERS, (("v", 2), ("v", 0)), start=WAITING)

    def test_errors_behind_a_crossing(self):
        self.fails((InvalidRun, 2), first_crossing, MEET, (("p", 0), ("q", 0), ("q", 0)))
        self.fails((InvalidRun, 1), first_crossing, TALKERS, (("u", 1), None), start=BOTH)

    def test_random(self):
        crossed = 0
        for seed in range(150):
            network = random_network(seed)
            start = random_start(seed, network, crossed=seed % 5 == 0)
            run = random_run(seed, network, start, 10)
            found = [at for at, conf in enumerate(spec.configurations(network, run, start))
                     if spec.crossed(network, conf)]
            self.gives(found[0] if found else None, first_crossing, network, run, start=start)
            crossed += bool(found)
        self.assertGreater(crossed, 20)


class AllRuns(Case):
    def test_constant(self):
        self.same(runs.MAX_LENGTH, 60)

    def test_document(self):
        self.gives([(("p", 0), ("q", 0)), (("p", 0), ("q", 1)), (("q", 0), ("p", 0))], all_runs, MEET, length=2)

    def test_no_moves(self):
        for network in NETWORKS:
            self.gives([()], all_runs, network, length=0)
        self.gives([()], all_runs, TALKERS, length=0, start=BOTH)

    def test_none(self):
        self.gives([], all_runs, LONELY, length=1)
        self.gives([], all_runs, LONELY, length=60)
        self.gives([], all_runs, MEET, length=3)
        self.gives([], all_runs, MEET, length=60)
        self.gives([ROUND[:3]], all_runs, CALL, length=3)
        self.gives([ROUND * 15], all_runs, CALL, length=60)

    def test_all(self):
        for network, start in [(network, None) for network in NETWORKS] + [(TALKERS, BOTH), (TALKERS, WAITING)]:
            for length in range(5):
                wanted = [run for run, _ in spec.runs(network, start or spec.first(network), length)]
                self.assertEqual(wanted, sorted(wanted))
                self.gives(wanted, all_runs, network, length=length, start=start)

    def test_random(self):
        for seed in range(60):
            network = random_network(seed)
            start = random_start(seed, network)
            for length in range(4):
                wanted = [run for run, _ in spec.runs(network, start, length)]
                self.gives(wanted, all_runs, network, length=length, start=start)

    def test_ascending_by_the_numbers(self):
        many = make_machine(1, *[(0, ("send", "a", letter), 0) for letter in "abcdefghijkl"])
        network = make_network(("a", "b"), a=NONE, b=many)
        self.gives([(("b", one), ("b", other)) for one in range(12) for other in range(12)],
                   all_runs, network, length=2)

    def test_each_is_found_when_it_is_asked_for(self):
        # There are so many runs that no program can go through all of them.
        loops = make_machine(1, *[(0, ("send", "mid", letter), 0) for letter in "abcdefgh"])
        network = make_network(("mid", "a"), ("mid", "b"), ("mid", "c"), mid=NONE, a=loops, b=loops, c=loops)
        found = all_runs(network, length=60)
        least = (("a", 0),) * 59
        wanted = [least + ((name, index),) for name in "abc" for index in range(8)]
        self.same(list(islice(found, 24)), wanted)
        self.same(next(found), least[1:] + (("a", 1), ("a", 0)))
        found.close()
        self.same(list(islice(all_runs(network, length=60), 2)), wanted[:2])

    def test_two_at_once(self):
        one, other = all_runs(TALKERS, length=5), all_runs(TALKERS, length=5)
        wanted = [run for run, _ in spec.runs(TALKERS, spec.first(TALKERS), 5)]
        self.same([next(one), next(one), next(other), next(one), next(other)],
                  [wanted[0], wanted[1], wanted[0], wanted[2], wanted[1]])

    def test_dead_ends_beside_long_runs(self):
        # The one machine can go wrong at each of its steps; then the other one stops soon.
        wrong = make_machine(2, (0, ("send", "v", "x"), 0), (0, ("step",), 1))
        network = make_network(("u", "v"), u=wrong, v=make_machine(1, (0, ("take", "u", "x"), 0)))
        found = list(islice(all_runs(network, length=60), 200))
        self.assertEqual(len(found), 200)
        self.assertEqual(found, sorted(set(found)))
        self.assertTrue(all(is_run(network, run) and len(run) == 60 for run in found))

    def test_many_ways_to_one_configuration(self):
        # Each order of the steps leads to the same place, from where there are no more moves.
        line = make_machine(8, *[(state, ("step",), state + 1) for state in range(7)])
        network = make_network(a=line, b=line, c=line, d=line)
        self.gives([], all_runs, network, length=29)
        self.same(next(all_runs(network, length=28)), tuple((name, at) for name in "abcd" for at in range(7)))

    def test_lengths(self):
        for length in unlike(lambda value: spec.whole(value, 0, 60)) + [-60, 61, 62, "2", (2,)]:
            self.fails((InvalidNumber, length), all_runs, CALL, length=length)
            self.fails((InvalidNumber, length), all_runs, CALL, length=length, start=0)
        self.gives([ROUND * 15], all_runs, CALL, length=60, start=FIRST)

    def test_wrong_starts_come_last(self):
        for value in ALL:
            if value is not None and not spec.configuration(CALL, value):
                self.fails(InvalidConfiguration, all_runs, CALL, length=2, start=value)
                self.fails(InvalidConfiguration, all_runs, CALL, length=0, start=value)

    def test_wrong_networks_come_first(self):
        for value in unlike(spec.network):
            self.fails(InvalidNetwork, all_runs, value, length=61, start=0)

    def test_steps(self):
        self.gives([(("one", 0), ("one", 2))], all_runs, STEPS, length=2)
        self.gives([(("one", 0),), (("one", 1),)], all_runs, STEPS, length=1)
        self.gives([(("one", 0), ("one", 2)) * 30], all_runs, STEPS, length=60)


if __name__ == "__main__":
    unittest.main()
