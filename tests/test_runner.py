"""The class Runner of halflink.runs.runner."""

import random
import unittest

from halflink.errors import InvalidConfiguration, InvalidNetwork, InvalidNumber, InvalidOperation, InvalidRun, TooMany
from halflink.networks.configurations import configuration_with, first_configuration
from halflink.runs.runner import Runner
from halflink.runs.runs import all_runs, configurations_on, possible_moves
from tests import spec
from tests.case import Case
from tests.samples import CALL, FLOW, LONELY, MEET, NETWORKS, STEPS, TALKERS, WIDE, random_network, random_start
from tests.test_runs import BOTH, FIRST, ROUND, WAITING, random_run, wrong_moves
from tests.wrong import ALL, FEW, spoiled, unlike

STARTED = configuration_with(CALL, {("a", "b"): ("go",)}, a=1)


class RunnerCase(Case):
    def state(self, runner):
        """Everything that a runner tells about itself."""
        many = len(runner)
        return repr((runner.now, runner.next_moves, runner.done_moves, many, [runner[at] for at in range(many + 1)],
                     str(runner), bool(runner)))

    def refuses(self, runner, error, function, *arguments, **keywords):
        """Check that a call raises an error, and that the runner stays as it was."""
        before = self.state(runner)
        self.fails(error, function, *arguments, **keywords)
        self.same(self.state(runner), before)

    def put_wrong(self, runner, value, error):
        def assign():
            runner.done_moves = value
        self.refuses(runner, error, runner.put, value)
        self.refuses(runner, error, assign)

    def tells(self, runner, network, run, start=None):
        """Check everything that a runner tells against its network, its run and its start."""
        passed = spec.configurations(network, run, start or spec.first(network))
        moves = sorted(spec.steps(network, passed[-1]))
        self.same(runner.now, passed[-1])
        self.same(runner.next_moves, tuple(moves))
        self.same(runner.done_moves, run)
        self.same(len(runner), len(run))
        self.same(bool(runner), bool(moves))
        self.same(str(runner), f"run of {len(run)} moves")
        self.same([runner[at] for at in range(len(run) + 1)], passed)
        for name, machine in network[0]:
            for index in range(-1, len(machine[2]) + 1):
                self.same((name, index) in runner, (name, index) in moves)
        self.same([runner(move) for move in moves], [spec.steps(network, passed[-1])[move] for move in moves])


class Doing(RunnerCase):
    def test_document(self):
        one = Runner(CALL)
        self.same([one.do(("a", 0), ("b", 0)), len(one), ("b", 1) in one, one[1], one.next_moves],
                  [((1, 1), ((), ())), 2, True, ((1, 0), (("go",), ())), (("b", 1),)])
        self.same([one(("b", 1)), str(one), one == Runner.along(CALL, (("a", 0), ("b", 0)), None)],
                  [((1, 0), ((), ("ok",))), "run of 2 moves", True])

    def test_longest(self):
        self.same(Runner.LONGEST, 1000)
        self.same(Runner(CALL).LONGEST, 1000)

    def test_at_first(self):
        for network in NETWORKS:
            self.tells(Runner(network), network, ())
            self.tells(Runner(network, start=None), network, ())
            self.tells(Runner(network, start=first_configuration(network)), network, ())
        self.tells(Runner(CALL, start=STARTED), CALL, (), STARTED)
        self.tells(Runner(TALKERS, start=BOTH), TALKERS, (), BOTH)

    def test_do(self):
        runner = Runner(CALL)
        for many in range(1, 9):
            self.same(runner.do((ROUND * 2)[many - 1]), spec.configurations(CALL, (ROUND * 2)[:many], FIRST)[-1])
            self.tells(runner, CALL, (ROUND * 2)[:many])

    def test_do_several(self):
        runner = Runner(CALL)
        self.same(runner.do(*ROUND), FIRST)
        self.same(runner.do_all(ROUND[:3]), ((1, 0), ((), ("ok",))))
        self.tells(runner, CALL, ROUND + ROUND[:3])
        self.same(runner.do(), runner.now)
        self.same(runner.do_all(()), runner.now)
        self.tells(runner, CALL, ROUND + ROUND[:3])

    def test_do_from_a_start(self):
        runner = Runner(CALL, start=STARTED)
        self.same(runner.do(("b", 0), ("b", 1)), ((1, 0), ((), ("ok",))))
        self.tells(runner, CALL, (("b", 0), ("b", 1)), STARTED)
        crossed = Runner(TALKERS, start=BOTH)
        crossed.do(("u", 1), ("v", 1), ("u", 0))
        self.tells(crossed, TALKERS, (("u", 1), ("v", 1), ("u", 0)), BOTH)

    def test_put(self):
        runner = Runner(CALL)
        self.same(runner.put(ROUND[:3]), ((1, 0), ((), ("ok",))))
        self.tells(runner, CALL, ROUND[:3])
        self.same(runner.put(ROUND[:1]), ((1, 0), (("go",), ())))
        self.tells(runner, CALL, ROUND[:1])
        runner.done_moves = ROUND * 2
        self.tells(runner, CALL, ROUND * 2)
        self.same(runner.put(()), FIRST)
        self.tells(runner, CALL, ())
        runner = Runner(CALL, start=STARTED)
        runner.done_moves = ROUND[1:]
        self.tells(runner, CALL, ROUND[1:], STARTED)
        runner.done_moves = ()
        self.tells(runner, CALL, (), STARTED)

    def test_back(self):
        runner = Runner.along(CALL, ROUND * 2, None)
        self.same(runner.back(), spec.configurations(CALL, ROUND * 2, FIRST)[7])
        self.tells(runner, CALL, (ROUND * 2)[:7])
        self.same(runner.back(0), runner.now)
        self.tells(runner, CALL, (ROUND * 2)[:7])
        self.same(runner.back(3), FIRST)
        self.tells(runner, CALL, ROUND)
        self.same(runner.back(many=2), ((1, 1), ((), ())))
        runner.do(("b", 1))
        self.tells(runner, CALL, ROUND[:3])
        self.same(runner.back(3), FIRST)
        self.tells(runner, CALL, ())
        self.same(runner.back(0), FIRST)
        self.refuses(runner, (InvalidNumber, 1), runner.back)

    def test_back_errors(self):
        runner = Runner.along(CALL, ROUND[:3], None)
        for many in unlike(lambda value: spec.whole(value, 0, 3)) + [4, -1, 10, "1", (1,)]:
            self.refuses(runner, (InvalidNumber, many), runner.back, many)
        started = Runner.along(CALL, ROUND[1:2], STARTED)
        self.refuses(started, (InvalidNumber, 2), started.back, 2)
        self.same(started.back(), STARTED)

    def test_call(self):
        runner = Runner.along(FLOW, (("c", 0), ("c", 0)), None)
        self.same(runner(("d", 1)), ((0, 0), (("x",), ())))
        self.same(runner(("c", 0)), ((0, 0), (("x",) * 3, ())))
        self.tells(runner, FLOW, (("c", 0), ("c", 0)))
        for value in wrong_moves(FLOW, runner.now):
            self.refuses(runner, InvalidOperation, runner, value)

    def test_in(self):
        runner = Runner.along(FLOW, (("c", 0),), None)
        for move in (("c", 0), ("d", 0), ("d", 1)):
            self.same(move in runner, True)
        before = self.state(runner)
        for value in wrong_moves(FLOW, runner.now):
            self.same(value in runner, False)
            self.same(value not in runner, True)
        self.same(self.state(runner), before)
        for value in ALL:
            self.same(value in Runner(LONELY), False)

    def test_numbers(self):
        runner = Runner.along(CALL, ROUND, None)
        self.same([runner[at] for at in range(5)], list(configurations_on(CALL, ROUND)))
        for at in unlike(lambda value: spec.whole(value, 0, 4)) + [5, -1, -5]:
            self.refuses(runner, (InvalidNumber, at), lambda at=at: runner[at])
        fresh = Runner(CALL, start=STARTED)
        self.same(fresh[0], STARTED)
        self.refuses(fresh, (InvalidNumber, 1), lambda: fresh[1])

    def test_truth(self):
        self.same(bool(Runner(LONELY)), False)
        self.same(bool(Runner(CALL)), True)
        self.same(bool(Runner(CALL, start=((1, 0), ((), ())))), False)
        stuck = Runner.along(MEET, (("p", 0), ("q", 0)), None)
        self.same([bool(stuck), len(stuck)], [False, 2])
        stuck.back()
        self.same(bool(stuck), True)

    def test_str(self):
        runner = Runner(STEPS)
        self.same(str(runner), "run of 0 moves")
        runner.do(("one", 0))
        self.same(str(runner), "run of 1 moves")
        runner.put((("one", 0), ("one", 2)) * 500)
        self.same(str(runner), "run of 1000 moves")

    def test_kinds_of_what_is_returned(self):
        runner = Runner.along(TALKERS, (("u", 0),), None)
        for value in (runner.now, runner.next_moves, runner.done_moves, runner[0], runner.do(), runner.back(0)):
            self.assertIs(type(value), tuple)
        for value in (runner.done_moves, runner.next_moves):
            self.assertTrue(all(type(move) is tuple for move in value))


class Wrong(RunnerCase):
    def test_do_wrong(self):
        runner = Runner.along(CALL, ROUND[:2], None)
        for value in wrong_moves(CALL, runner.now):
            self.refuses(runner, (InvalidRun, 0), runner.do, value)
            self.refuses(runner, (InvalidRun, 0), runner.do_all, (value,) + ROUND)
        for value in wrong_moves(CALL, FIRST)[::4]:
            self.refuses(runner, (InvalidRun, 2), runner.do, *ROUND[2:], value, None)
            self.refuses(runner, (InvalidRun, 2), runner.do_all, ROUND[2:] + (value,))

    def test_all_or_none(self):
        runner = Runner(CALL)
        self.refuses(runner, (InvalidRun, 3), runner.do, *ROUND[:3], ("b", 0))
        self.refuses(runner, (InvalidRun, 1), runner.do_all, ROUND[:1] * 2)
        self.refuses(runner, (InvalidRun, 0), runner.do, ("b", 0))
        self.tells(runner, CALL, ())

    def test_no_tuple(self):
        runner = Runner.along(CALL, ROUND[:2], None)
        for value in ALL + (list(ROUND[2:]), {0: ("b", 1)}, dict.fromkeys(ROUND[2:])):
            if not isinstance(value, tuple):
                self.refuses(runner, (InvalidRun, 0), runner.do_all, value)
                self.put_wrong(runner, value, (InvalidRun, 0))

    def test_put_wrong(self):
        runner = Runner.along(CALL, ROUND[:3], None)
        for value in ALL + tuple(spoiled(ROUND)):
            fault = spec.fault(CALL, value, FIRST)
            if fault is not None:
                self.put_wrong(runner, value, (InvalidRun, fault))
        self.put_wrong(runner, ROUND[3:], (InvalidRun, 0))
        self.put_wrong(runner, ROUND + ROUND[:2] * 2, (InvalidRun, 6))

    def test_thousand_moves(self):
        runner = Runner(CALL)
        self.same(runner.put(ROUND * 250), FIRST)
        self.tells(runner, CALL, ROUND * 250)
        self.refuses(runner, (TooMany, 1000), runner.do, ("a", 0))
        self.refuses(runner, (TooMany, 1000), runner.do_all, ROUND)
        self.refuses(runner, (InvalidRun, 0), runner.do, ("b", 0))
        self.refuses(runner, (InvalidRun, 1), runner.do, ("a", 0), ("a", 0))
        self.same(runner.do(), FIRST)
        self.put_wrong(runner, ROUND * 250 + ROUND[:1], (TooMany, 1000))
        self.put_wrong(runner, ROUND * 251, (TooMany, 1000))
        self.put_wrong(runner, ROUND * 250 + ROUND[:1] * 2, (InvalidRun, 1001))
        self.put_wrong(runner, ROUND * 300 + (None,), (InvalidRun, 1200))
        self.same(runner(("a", 0)), ((1, 0), (("go",), ())))
        self.same(("a", 0) in runner, True)
        self.same(runner.next_moves, (("a", 0),))
        runner.back()
        self.same(runner.do(("a", 1)), FIRST)
        self.same(len(runner), 1000)

    def test_thousand_moves_one_by_one(self):
        runner = Runner(FLOW)
        for _ in range(999):
            runner.do(("c", 0))
        self.refuses(runner, (TooMany, 1000), runner.do, ("c", 0), ("d", 1))
        self.same(runner.do(("c", 0)), ((0, 0), (("x",) * 1000, ())))
        self.refuses(runner, (TooMany, 1000), runner.do, ("c", 0))
        self.refuses(runner, (InvalidRun, 1), runner.do, ("d", 0), ("d", 0))
        self.same(runner.back(1000), first_configuration(FLOW))

    def test_along_too_long(self):
        self.fails((TooMany, 1000), Runner.along, CALL, ROUND * 250 + ROUND[:1], None)
        self.fails((InvalidRun, 1004), Runner.along, CALL, ROUND * 251 + ROUND[1:], None)
        self.same(len(Runner.along(CALL, ROUND * 250, None)), 1000)


class Creating(Case):
    def test_wrong_networks(self):
        for value in unlike(spec.network):
            self.fails(InvalidNetwork, Runner, value)
            self.fails(InvalidNetwork, Runner, value, start=0)
            self.fails(InvalidNetwork, Runner.along, value, 0, 0)
        for value in spoiled(MEET, FEW[:8]):
            if not spec.network(value):
                self.fails(InvalidNetwork, Runner, value)

    def test_wrong_starts(self):
        for value in ALL + tuple(spoiled(STARTED)):
            if value is not None and not spec.configuration(CALL, value):
                self.fails(InvalidConfiguration, Runner, CALL, start=value)
                self.fails(InvalidConfiguration, Runner.along, CALL, (), value)
                self.fails(InvalidConfiguration, Runner.along, CALL, None, value)

    def test_along(self):
        self.same(Runner.along(CALL, ROUND[:1], None).now, ((1, 0), (("go",), ())))
        self.same(Runner.along(CALL, ROUND[1:], STARTED).done_moves, ROUND[1:])
        self.same(Runner.along(CALL, (), STARTED).now, STARTED)
        self.assertIs(type(Runner.along(CALL, (), None)), Runner)
        for value in ALL:
            fault = spec.fault(CALL, value, FIRST)
            if fault is not None:
                self.fails((InvalidRun, fault), Runner.along, CALL, value, None)
        self.fails((InvalidRun, 0), Runner.along, CALL, ROUND, STARTED)
        self.fails((InvalidRun, 3), Runner.along, CALL, ROUND[1:] + ROUND[1:], STARTED)


class Equal(Case):
    def test_equal(self):
        first = first_configuration(CALL)
        self.same(Runner(CALL) == Runner(CALL), True)
        self.same(Runner(CALL) != Runner(CALL), False)
        self.same(Runner(CALL) == Runner(CALL, start=first), True)
        self.same(Runner(CALL, start=first) == Runner(CALL), True)
        self.same(Runner(CALL, start=STARTED) == Runner(CALL, start=STARTED), True)
        one, other = Runner(CALL), Runner.along(CALL, ROUND[:2], first)
        self.same([one == other, other == one], [False, False])
        one.do(*ROUND[:2])
        self.same([one == other, other == one], [True, True])

    def test_network(self):
        turned = Runner(((("a", (1, (), ())),), ()))
        self.same(turned == Runner(LONELY), True)
        self.same(Runner(CALL) == Runner(MEET), False)
        self.same(Runner(LONELY) == Runner(((("b", (1, (), ())),), ())), False)
        self.same(Runner(LONELY) == Runner(((("a", (2, (), ())),), ())), False)
        self.same(Runner(LONELY) == Runner(((("a", (1, (0,), ())),), ())), False)

    def test_run(self):
        # Both runs lead to the same configuration.
        early, late = (("c", 0), ("d", 1), ("c", 0)), (("c", 0), ("c", 0), ("d", 1))
        one, other = Runner.along(FLOW, early, None), Runner.along(FLOW, late, None)
        self.same(one.now, other.now)
        self.same(one == other, False)
        self.same(Runner.along(CALL, ROUND, None) == Runner(CALL), False)
        self.same(one == Runner.along(FLOW, early, None), True)

    def test_start(self):
        self.same(Runner(CALL) == Runner(CALL, start=STARTED), False)
        # The starts differ, and so do the runs, but the present configurations do not.
        began = Runner.along(CALL, ROUND[:1], None)
        self.same(began.now, Runner(CALL, start=STARTED).now)
        self.same(began == Runner(CALL, start=STARTED), False)
        # Only the starts differ.
        self.same(Runner.along(FLOW, (("c", 0),), ((0, 1), ((), ()))) == Runner.along(FLOW, (("c", 0),), None), False)

    def test_other_values(self):
        runner = Runner(CALL)
        for value in ALL + (CALL, FIRST, (), str(runner), [runner], (runner,)):
            if value is not runner and not isinstance(value, Runner):
                self.same(runner == value, False)
                self.same(value == runner, False)
                self.same(runner != value, True)

    def test_two_runners_are_apart(self):
        one, other = Runner(CALL), Runner(CALL)
        one.do(*ROUND[:3])
        self.same([len(one), len(other), other.now], [3, 0, FIRST])
        kept = one.done_moves, one.next_moves, one.now
        text = repr(kept)
        one.back(2)
        self.same(repr(kept), text)


class Long(RunnerCase):
    def test_random(self):
        for seed in range(60):
            rng = random.Random(seed)
            network = random_network(seed)
            start = random_start(seed, network)
            runner, run = Runner(network, start=start), ()
            for _ in range(25):
                found = list(possible_moves(network, runner.now))
                kind = rng.random()
                if found and kind < 0.6:
                    move = rng.choice(found)
                    behind = runner(move)
                    self.same(runner.do(move), behind)
                    run += (move,)
                elif kind < 0.8:
                    many = rng.randint(0, len(run))
                    runner.back(many)
                    run = run[:len(run) - many]
                elif kind < 0.9:
                    run = random_run(rng.random(), network, start, rng.randint(0, 6))
                    runner.put(run)
                else:
                    more = random_run(rng.random(), network, runner.now, 3)
                    runner.do_all(more)
                    run += more
                self.same(runner.done_moves, run)
            self.tells(runner, network, run, start)
            self.same(runner == Runner.along(network, run, start), True)

    def test_from_every_short_run(self):
        for network in (CALL, MEET, TALKERS, WIDE):
            for run in list(all_runs(network, length=3))[:40]:
                self.tells(Runner.along(network, run, None), network, run)
        for run in list(all_runs(TALKERS, length=3, start=WAITING))[:40]:
            self.tells(Runner.along(TALKERS, run, WAITING), TALKERS, run, WAITING)


if __name__ == "__main__":
    unittest.main()
