"""The class Engine of halflink.engine.engine, against the run that it has done."""

import random
import unittest

from halflink.engine.engine import Engine
from halflink.engine.schedulers import Alternating, Last, Named, Quiet, QuietTurns, Scheduler, Turns
from halflink.errors import InvalidConfiguration, InvalidNetwork, InvalidNumber, InvalidOperation, InvalidRun
from halflink.machines.machines import make_machine
from halflink.networks.configurations import configuration_with, first_configuration
from halflink.networks.networks import renamed_network, with_machine
from tests import spec
from tests.case import Case
from tests.plainsched import Plain
from tests.samples import CALL, FLOW, LONELY, MEET, NETWORKS, STEPS, TALKERS, WIDE, random_network, random_start
from tests.test_runs import BOTH, FIRST, ROUND, wrong_moves
from tests.test_within import fits
from tests.wrong import ALL, FEW, spoiled, unlike

TURNED = renamed_network(CALL, a="b", b="a")
ANSWERS = dict(TURNED[0])["a"]
MORE = with_machine(TURNED, "a", make_machine(2, *ANSWERS[2], (1, ("step",), 1), finals=ANSWERS[1]))
TWO = configuration_with(FLOW, {("c", "d"): ("x", "x")})


class PlainEngine:
    """An engine as its network, its bounds, its start and its run."""

    def __init__(self, net, capacity=1, most=None, start=None):
        self.net, self.capacity, self.most = net, capacity, most
        self.passed, self.run = [start or spec.first(net)], []

    def ways(self):
        found = spec.steps(self.net, self.passed[-1])
        return {move: found[move] for move in sorted(found) if fits(found[move], self.capacity, self.most)}

    def do(self, move):
        behind = self.ways()[move]
        self.run.append(move)
        self.passed.append(behind)

    def go(self, plain, steps):
        """The moves that a plain scheduler chooses, or None for an error."""
        moves = []
        passed, run = list(self.passed), list(self.run)
        while len(moves) < steps and self.ways():
            move = plain.choose(tuple(self.ways()))
            if move is None:
                self.passed, self.run = passed, run
                return None
            self.do(move)
            moves.append(move)
        return tuple(moves)

    def back(self, many):
        self.run = self.run[:len(self.run) - many]
        self.passed = self.passed[:len(self.run) + 1]


class EngineCase(Case):
    def state(self, engine):
        """Everything that an engine tells about itself."""
        many = len(engine)
        return repr((engine.now, engine.next_moves, engine.done_moves, engine.capacity, engine.most, many,
                     [engine[at] for at in range(many + 1)], str(engine), bool(engine)))

    def refuses(self, engine, error, function, *arguments, **keywords):
        """Check that a call raises an error, and that the engine stays as it was."""
        before = self.state(engine)
        self.fails(error, function, *arguments, **keywords)
        self.same(self.state(engine), before)

    def tells(self, engine, plain):
        """Check everything that an engine tells against a plain one."""
        ways = plain.ways()
        self.same(engine.now, plain.passed[-1])
        self.same(engine.next_moves, tuple(ways))
        self.same(engine.done_moves, tuple(plain.run))
        self.same((engine.capacity, engine.most, len(engine)), (plain.capacity, plain.most, len(plain.run)))
        self.same([engine[at] for at in range(len(plain.passed))], plain.passed)
        self.same(bool(engine), bool(ways))
        letters = sum(map(len, plain.passed[-1][1]))
        self.same(str(engine), f"engine after {len(plain.run)} moves, {letters} letters")
        for name, machine in plain.net[0]:
            for index in range(-1, len(machine[2]) + 1):
                self.same((name, index) in engine, (name, index) in ways)


class Doing(EngineCase):
    def test_document(self):
        engine = Engine(FLOW, capacity=2)
        self.same([engine.go(Last(), steps=2), engine.go(Scheduler(), steps=9), engine.now, bool(engine), str(engine)],
                  [(("d", 0), ("c", 0)), (("c", 0),), ((0, 1), (("x", "x"), ())), False,
                   "engine after 3 moves, 2 letters"])

    def test_at_first(self):
        for network in NETWORKS:
            for capacity, most in ((1, None), (1, 1), (20, 100), (3, 2)):
                engine = Engine(network, capacity=capacity, most=most)
                self.tells(engine, PlainEngine(network, capacity, most))
                self.tells(Engine(network, capacity=capacity, most=most, start=first_configuration(network)),
                           PlainEngine(network, capacity, most))
            self.tells(Engine(network), PlainEngine(network))
        self.tells(Engine(FLOW, capacity=2, most=2, start=TWO), PlainEngine(FLOW, 2, 2, TWO))
        self.tells(Engine(TALKERS, capacity=20, start=BOTH), PlainEngine(TALKERS, 20, None, BOTH))

    def test_histories(self):
        kinds = {}
        for seed in range(120):
            rng = random.Random(seed)
            network = rng.choice(NETWORKS) if seed % 2 else random_network(seed)
            start = None if seed % 3 else random_start(seed, network)
            capacity, most = rng.choice((1, 2, 3, 20)), rng.choice((None, None, 1, 2, 4, 100))
            if start is not None and not fits(start, capacity, most):
                self.fails(InvalidOperation, Engine, network, capacity=capacity, most=most, start=start)
                continue
            engine = Engine(network, capacity=capacity, most=most, start=start)
            plain = PlainEngine(network, capacity, most, start)
            schedulers = [(Scheduler(), Plain("first")), (Last(), Plain("last")), (Turns(), Plain("turns")),
                          (Quiet(network), Plain("quiet", network)),
                          (QuietTurns(network), Plain("quiet turns", network)),
                          (Named(network[0][-1][0]), Plain("named", network[0][-1][0])),
                          (Alternating(Last(), QuietTurns(network)),
                           Plain("alternating", Plain("last"), Plain("quiet turns", network))),
                          (Quiet(CALL), Plain("quiet", CALL))]
            for _ in range(25):
                self.operate(rng, engine, plain, schedulers, kinds)
            self.tells(engine, plain)
        self.assertGreater(min(kinds.values()), 20)
        self.assertEqual(len(kinds), 8)

    def operate(self, rng, engine, plain, schedulers, kinds):
        kind = rng.randrange(6)
        done = True
        if kind == 0:
            moves = []
            copy = PlainEngine(plain.net, plain.capacity, plain.most)
            copy.passed, copy.run = list(plain.passed), list(plain.run)
            for _ in range(rng.randint(0, 4)):
                if copy.ways():
                    moves.append(rng.choice(list(copy.ways())))
                    copy.do(moves[-1])
            wrong = rng.random() < 0.3
            if wrong:
                moves.append(("a", 77))
                self.refuses(engine, (InvalidRun, len(moves) - 1), engine.do, *moves)
                done = False
            else:
                self.same(rng.choice((engine.do, lambda *rest: engine.do_all(rest)))(*moves), copy.passed[-1])
                plain.passed, plain.run = copy.passed, copy.run
        elif kind in (1, 2):
            scheduler, model = rng.choice(schedulers)
            steps = rng.choice((0, 1, 3, 10))
            before = self.state(engine)
            wanted = plain.go(model, steps)
            done = wanted is not None
            if wanted is None:
                self.fails(InvalidOperation, engine.go, scheduler, steps=steps)
                self.same(self.state(engine), before)
            else:
                self.same(engine.go(scheduler, steps=steps), wanted)
        elif kind == 3:
            many = rng.randint(0, len(plain.run) + 1)
            done = many <= len(plain.run)
            if done:
                plain.back(many)
                self.same(engine.back(many), plain.passed[-1])
            else:
                self.refuses(engine, (InvalidNumber, many), engine.back, many)
        else:
            capacity, most = rng.choice((1, 2, 3, 20)), rng.choice((None, 1, 2, 3, 100))
            done = self.bound(rng, engine, plain, capacity, most)
        self.tells(engine, plain)
        kind = min(kind, 4) if kind != 2 else 1
        kinds[kind, done] = kinds.get((kind, done), 0) + 1

    def bound(self, rng, engine, plain, capacity, most):
        """Change one bound or both, and return whether that was possible."""
        which = rng.randrange(3)
        given = (capacity if which != 1 else plain.capacity, most if which != 0 else plain.most)
        before = self.state(engine)
        possible = fits(plain.passed[-1], *given)

        def assign():
            if which == 0:
                engine.capacity = capacity
            elif which == 1:
                engine.most = most
            else:
                self.assertIsNone(engine.change(capacity=capacity, most=most))

        if possible:
            assign()
            plain.capacity, plain.most = given
        else:
            self.fails(InvalidOperation, assign)
            self.same(self.state(engine), before)
        return possible

    def test_go(self):
        engine = Engine(CALL)
        self.same(engine.go(Scheduler()), (("a", 0),))
        self.same(engine.go(Scheduler(), steps=0), ())
        self.same(len(engine), 1)
        self.same(engine.go(Scheduler(), steps=1000), (ROUND * 251)[1:1001])
        self.same(len(engine), 1001)
        self.refuses(engine, (InvalidNumber, 1001), engine.go, Scheduler(), steps=1001)
        # Until there are no moves.
        self.same(Engine(MEET).go(Scheduler(), steps=1000), (("p", 0), ("q", 0)))
        self.same(Engine(LONELY).go(Turns(), steps=1000), ())

    def test_the_scheduler_itself_is_asked(self):
        turns = Turns()
        engine = Engine(STEPS)
        self.same(engine.go(turns, steps=1), (("one", 0),))
        wide = Engine(WIDE)
        self.same(wide.go(turns, steps=3), (("west", 0), ("zero", 0), ("left", 0)))
        self.same(turns((("left", 1), ("mid", 0))), ("mid", 0))

    def test_errors_of_schedulers(self):
        class Broken(Scheduler):
            many = 0

            def __call__(self, moves):
                self.many += 1
                if self.many == 4:
                    raise InvalidNetwork("broken")
                return moves[0]

        engine = Engine(CALL)
        broken = Broken()
        self.refuses(engine, InvalidNetwork, engine.go, broken, steps=9)
        self.same(broken.many, 4)
        self.same(engine.go(broken, steps=2), ROUND[:2])
        # In TURNED, b asks a; the step of a that QuietTurns does not know comes behind two moves.
        turns = QuietTurns(TURNED)
        engine = Engine(MORE)
        self.refuses(engine, InvalidOperation, engine.go, turns, steps=3)
        self.same(turns((("a", 1), ("b", 0))), ("b", 0))
        # What an alternating one has chosen before the error is remembered, too: its second one is asked again.
        both = Alternating(Turns(), QuietTurns(TURNED))
        engine = Engine(MORE)
        engine.do(("b", 0))
        self.refuses(engine, InvalidOperation, engine.go, both, steps=2)
        self.fails(InvalidOperation, both, (("b", 7),))
        self.same([both((("a", 1), ("b", 0))), both((("a", 1), ("b", 0)))], [("a", 1), ("b", 0)])

    def test_bounds_below_earlier_configurations(self):
        engine = Engine(FLOW, capacity=3)
        engine.do(("c", 0), ("c", 0), ("c", 0), ("d", 1), ("d", 1))
        engine.capacity = 1
        self.same((engine.capacity, engine.next_moves), (1, (("d", 0), ("d", 1))))
        self.same(engine[3], ((0, 0), (("x",) * 3, ())))
        # Behind such a configuration there are only moves to those within the bounds.
        self.same(engine.back(2), ((0, 0), (("x",) * 3, ())))
        self.same((engine.next_moves, bool(engine), ("d", 1) in engine), ((), False, False))
        self.same(engine.go(Scheduler(), steps=5), ())
        self.refuses(engine, (InvalidRun, 0), engine.do, ("d", 1))
        self.refuses(engine, InvalidOperation, engine.change, capacity=1, most=None)
        self.refuses(engine, InvalidOperation, engine.change, capacity=3, most=2)
        self.assertIsNone(engine.change(capacity=3, most=3))
        self.same(engine.next_moves, (("d", 0), ("d", 1)))
        engine.back(1)
        engine.most = 2
        engine.do(("d", 1))
        self.same(str(engine), "engine after 3 moves, 1 letters")

    def test_steps_do_not_help_beyond_the_bounds(self):
        engine = Engine(FLOW, capacity=2, start=TWO)
        engine.do(("d", 1))
        engine.capacity = 1
        engine.back()
        # A step leaves two letters there, the take only one.
        self.same(engine.next_moves, (("d", 1),))

    def test_contains_any_value(self):
        engine = Engine(CALL)
        for value in wrong_moves(CALL, FIRST):
            self.assertIs(value in engine, False)
        self.assertIs(("a", 0) in engine, True)
        self.assertIs(("a", False) in engine, False)
        self.assertIs(["a", 0] in engine, False)

    def test_equal(self):
        one = Engine(CALL)
        self.assertTrue(one == Engine(CALL, capacity=1, most=None, start=FIRST))
        for other in (Engine(CALL, capacity=2), Engine(CALL, most=1), Engine(MEET),
                      Engine(CALL, start=configuration_with(CALL, a=1))):
            self.assertIs(one == other, False)
            self.assertIs(one != other, True)
        other = Engine(CALL)
        other.do(*ROUND)
        self.assertIs(one == other, False)
        self.same(one.now, other.now)
        one.do(*ROUND)
        self.assertIs(one == other, True)
        one.change(capacity=2, most=5)
        self.assertIs(one == other, False)
        one.change(capacity=1, most=None)
        self.assertIs(one == other, True)

        class Derived(Engine):
            pass

        self.assertIs(Engine(CALL) == Derived(CALL), True)
        self.assertIs(Derived(CALL) == Engine(CALL), True)
        for value in ALL:
            self.assertIs(one == value, False)
            self.assertIs(one != value, True)

    def test_nothing_gives_access(self):
        engine = Engine(CALL)
        moves = engine.done_moves
        engine.do(("a", 0))
        self.same(moves, ())
        self.assertIs(type(engine.done_moves), tuple)
        self.assertIs(type(engine.next_moves), tuple)
        with self.assertRaises(TypeError):
            iter(engine)
        for name in ("now", "done_moves", "next_moves"):
            with self.assertRaises(AttributeError):
                setattr(engine, name, ())

    def test_long_runs(self):
        engine = Engine(CALL)
        self.same(engine.do_all(ROUND * 500), FIRST)
        self.same((len(engine), engine[1999], engine[2000]), (2000, ((1, 0), ((), ("ok",))), FIRST))
        self.refuses(engine, (InvalidRun, 2000), engine.do_all, ROUND * 500 + (("b", 0),))
        self.same(engine.back(1999), ((1, 0), (("go",), ())))


class Errors(EngineCase):
    def test_making(self):
        for value in unlike(spec.network):
            self.fails(InvalidNetwork, Engine, value, capacity=0, most=0, start=0)
        for value in unlike(lambda part: spec.whole(part, 1, 20), ALL + (21,)):
            self.fails((InvalidNumber, value), Engine, FLOW, capacity=value, most=0, start=0)
        for value in unlike(lambda part: part is None or spec.whole(part, 1, 100), ALL + (101,)):
            self.fails((InvalidNumber, value), Engine, FLOW, most=value, start=0)
        for value in unlike(lambda part: part is None or spec.configuration(FLOW, part)):
            self.fails(InvalidConfiguration, Engine, FLOW, start=value)
        self.fails(InvalidOperation, Engine, FLOW, start=TWO)
        self.fails(InvalidOperation, Engine, FLOW, capacity=2, most=1, start=TWO)

    def test_bounds(self):
        engine = Engine(FLOW, capacity=2, start=TWO)

        def assign(name, value):
            setattr(engine, name, value)

        for value in unlike(lambda part: spec.whole(part, 1, 20), ALL + (21,)):
            self.refuses(engine, (InvalidNumber, value), assign, "capacity", value)
            self.refuses(engine, (InvalidNumber, value), engine.change, capacity=value, most=0)
        for value in unlike(lambda part: part is None or spec.whole(part, 1, 100), ALL + (101,)):
            self.refuses(engine, (InvalidNumber, value), assign, "most", value)
            self.refuses(engine, (InvalidNumber, value), engine.change, capacity=1, most=value)
        self.refuses(engine, InvalidOperation, assign, "capacity", 1)
        self.refuses(engine, InvalidOperation, assign, "most", 1)
        self.refuses(engine, InvalidOperation, engine.change, capacity=1, most=100)
        for capacity, most in ((20, 100), (2, 2), (20, None)):
            self.assertIsNone(engine.change(capacity=capacity, most=most))
            self.same((engine.capacity, engine.most), (capacity, most))

    def test_moves(self):
        engine = Engine(CALL)
        engine.do(("a", 0))
        for value in list(ALL) + [list(ROUND), {}, "a"]:
            at = spec.fault(CALL, value, engine.now)
            if at is not None:
                self.refuses(engine, (InvalidRun, at), engine.do_all, value)
        for value in spoiled(ROUND[1:], FEW):
            at = spec.fault(CALL, value, engine.now)
            if at is not None:
                self.refuses(engine, (InvalidRun, at), engine.do_all, value)
        # A possible move that leads out of the bounds is no next move.
        full = Engine(FLOW, capacity=2)
        self.refuses(full, (InvalidRun, 2), full.do, ("c", 0), ("c", 0), ("c", 0))
        full.change(capacity=20, most=1)
        self.refuses(full, (InvalidRun, 1), full.do, ("c", 0), ("c", 0))

    def test_go(self):
        engine = Engine(CALL)
        for value in ALL + (Scheduler, Turns, str):
            self.refuses(engine, InvalidOperation, engine.go, value, steps="x")
        for value in unlike(lambda part: spec.whole(part, 0, 1000), ALL + (1001, -1)):
            self.refuses(engine, (InvalidNumber, value), engine.go, Last(), steps=value)

    def test_back_and_items(self):
        engine = Engine(CALL)
        engine.do(*ROUND[:3])
        for value in unlike(lambda part: spec.whole(part, 0, 3), ALL + (4, -1)):
            self.refuses(engine, (InvalidNumber, value), engine.back, value)
            self.refuses(engine, (InvalidNumber, value), lambda value=value: engine[value])
        self.same(engine.back(0), engine.now)
        self.same(engine.back(), spec.configurations(CALL, ROUND[:2], FIRST)[-1])


if __name__ == "__main__":
    unittest.main()
