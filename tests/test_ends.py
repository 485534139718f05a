"""[8.1] to [8.4] and the functions of halflink.asked.ends."""

import random
import unittest

from halflink.asked.ends import (
    end_paper, finish_paper, is_dead_end, is_end_paper, is_finish_paper, is_finished, is_refusal_paper,
    movable_machines, refusal_paper, refusing_channels,
)
from halflink.errors import Crossed, InvalidConfiguration, InvalidNetwork, InvalidOperation, TooMany, UnknownName
from halflink.machines.machines import make_machine
from halflink.networks.configurations import configuration_with, first_configuration
from halflink.networks.networks import make_network
from halflink.views.oneway import crossing_run
from tests import plain, sizes, spec
from tests.case import Case
from tests.samples import CALL, D, FLOW, LONELY, MEET, NONE, TALKERS, WIDE
from tests.walks import BOTH_WAYS, CROSSING, GOING, ONE_WAY, STARTS, walk
from tests.wrong import ALL, FEW, spoiled, unlike

HALT = make_network(("c", "d"), c=make_machine(2, (0, ("send", "d", "x"), 1), finals=(1,)), d=D)
LOST = configuration_with(HALT, {("c", "d"): ("x",)}, c=1, d=1)
MORE = configuration_with(FLOW, {("c", "d"): ("x",) * 21})

# The taker knows x and y, in different states; it can also be too early or too late.
PICKY = make_network(
    ("a", "b"),
    a=make_machine(2, (0, ("send", "b", "x"), 0), (0, ("send", "b", "y"), 1), finals=(1,)),
    b=make_machine(3, (0, ("take", "a", "x"), 1), (1, ("take", "a", "y"), 2), (1, ("take", "a", "z"), 2), finals=(2,)),
)


def refuses(channel):
    return lambda network, conf: channel in plain.refusing(network, conf)


def kinds(network):
    """The functions of the three kinds of papers, with their further arguments and what the configurations must be."""
    found = [(end_paper, is_end_paper, (), plain.dead), (finish_paper, is_finish_paper, (), plain.finished)]
    return found + [(refusal_paper, is_refusal_paper, channel, refuses(channel)) for channel in spec.channels(network)]


class Configurations(Case):
    def test_document(self):
        self.same([movable_machines(HALT, LOST), is_dead_end(HALT, LOST),
                   is_finished(HALT, configuration_with(HALT, c=1, d=1)),
                   movable_machines(CALL, first_configuration(CALL))], [(), True, True, ("a",)])
        self.gives((("a", "b"),), refusing_channels, CALL, configuration_with(CALL, {("a", "b"): ("no", "go")}))

    def test_random_configurations(self):
        met = [0, 0, 0, 0]
        for seed, (network, start) in enumerate(STARTS * 2):
            _, passed = walk(seed, network, plain.start_of(network, start), 12)
            for conf in passed[::3] + passed[-1:]:
                self.gives(tuple(plain.movable(network, conf)), movable_machines, network, conf)
                self.gives(plain.dead(network, conf), is_dead_end, network, conf)
                self.gives(plain.finished(network, conf), is_finished, network, conf)
                self.gives(tuple(plain.refusing(network, conf)), refusing_channels, network, conf)
                told = (plain.movable(network, conf), plain.dead(network, conf), plain.finished(network, conf),
                        plain.refusing(network, conf))
                met = [many + bool(part) for many, part in zip(met, told)]
        self.assertGreater(min(met), 20)

    def test_finished_machines_can_move(self):
        self.gives(True, is_finished, CALL, first_configuration(CALL))
        self.gives(False, is_dead_end, CALL, first_configuration(CALL))
        # No machine can move, and nothing is final; or only letters are left.
        self.gives(True, is_dead_end, LONELY, ((0,), ()))
        self.gives(False, is_finished, LONELY, ((0,), ()))
        done = make_network(a=make_machine(1, finals=(0,)))
        self.gives(False, is_dead_end, done, ((0,), ()))
        self.gives(True, is_finished, done, ((0,), ()))
        self.gives(False, is_finished, CALL, configuration_with(CALL, {("b", "a"): ("go",)}))

    def test_refusing(self):
        for queue, state, wanted in (
            (("x",), 0, False), (("y",), 0, True), (("y", "x"), 0, True), (("x", "y"), 0, False), ((), 0, False),
            (("y",), 1, False), (("z",), 1, False), (("x",), 1, True), (("x",), 2, False),
        ):
            conf = configuration_with(PICKY, {("a", "b"): queue}, b=state)
            self.gives((("a", "b"),) if wanted else (), refusing_channels, PICKY, conf)
        # A step, a send, or a take from another machine: the letter may still be taken later.
        for deed in (("step",), ("send", "a", "x"), ("take", "e", "x")):
            network = make_network(("a", "b"), ("b", "e"), a=NONE, e=NONE,
                                   b=make_machine(1, (0, ("take", "a", "x"), 0), (0, deed, 0)))
            conf = configuration_with(network, {("a", "b"): ("y",), ("e", "b"): ("y",)})
            self.gives((), refusing_channels, network, conf)

    def test_errors(self):
        functions = (movable_machines, is_dead_end, is_finished, refusing_channels)
        for function in functions:
            for value in unlike(spec.network):
                self.fails(InvalidNetwork, function, value, 0)
            for value in unlike(lambda part: spec.configuration(HALT, part), ALL + tuple(spoiled(LOST))):
                self.fails(InvalidConfiguration, function, HALT, value)


class Papers(Case):
    def test_document(self):
        self.same([len(end_paper(HALT)[1]), end_paper(CALL)[0], is_end_paper(HALT, ("run", (("d", 0), ("c", 0))))],
                  [2, "closed", True])
        self.same(refusal_paper(CALL, "a", "b")[0], "closed")
        self.same([len(finish_paper(HALT)[1]), finish_paper(CALL), finish_paper(FLOW)[0]], [3, ("run", ()), "closed"])

    def test_against_searches(self):
        seen = {}
        for network, start in ONE_WAY:
            first = plain.start_of(network, start)
            views = plain.views(network, first)
            found = plain.reached(network, first, 7, 1000)
            for search, judge, rest, fits in kinds(network):
                paper = search(network, *rest, start=start)
                self.gives(paper, search, network, *rest, start=start)
                self.gives(True, judge, network, *rest, paper, start=start)
                self.assertTrue(plain.end_paper(network, paper, first, fits))
                # [8.3]: the view tells it.
                numbers = [number for view, number in views.items() if fits(network, plain.seen(network, view))]
                self.assertEqual(paper[0], "run" if numbers else "closed")
                seen[search, paper[0]] = seen.get((search, paper[0]), 0) + 1
                if numbers:
                    self.assertEqual(len(paper[1]), min(numbers))
                else:
                    self.same(paper, ("closed", tuple(sorted(views))))
                least = [number for conf, number in (found or {}).items() if fits(network, conf)]
                if least:
                    self.assertEqual(len(paper[1]), min(least))
                elif found is not None:
                    self.assertTrue(paper[0] == "closed" or len(paper[1]) > 7)
                whole = ("closed", tuple(sorted(views)))
                self.gives(not numbers, judge, network, *rest, whole, start=start)
        self.assertEqual(len(seen), 6)
        self.assertGreater(min(seen.values()), 5)

    def test_a_letter_that_could_be_taken_is_no_dead_end(self):
        # A hold with left 0: no act takes the letter, but the run of the path goes on.
        network = make_network(("a", "b"), a=make_machine(2, (0, ("send", "b", "x"), 1)),
                               b=make_machine(2, (0, ("take", "a", "x"), 1), finals=(1,)))
        self.same(end_paper(network), ("run", (("a", 0), ("b", 0))))
        # The dead end is that no machine moves though a is not in a final state; with one, all is finished.
        network = make_network(("a", "b"), a=make_machine(2, (0, ("send", "b", "x"), 1), finals=(1,)),
                               b=make_machine(2, (0, ("take", "a", "x"), 1), finals=(1,)))
        self.same(end_paper(network)[0], "closed")
        self.gives(True, is_end_paper, network, end_paper(network))
        self.assertIn(((1, 0), (("a", "x", 0),)), end_paper(network)[1])

    def test_letters_of_the_start(self):
        start = configuration_with(PICKY, {("a", "b"): ("x", "x")})
        self.same(refusal_paper(PICKY, "a", "b", start=start), ("run", (("b", 0),)))
        start = configuration_with(PICKY, {("a", "b"): ("z",)})
        self.same(refusal_paper(PICKY, "a", "b", start=start), ("run", ()))
        self.same(refusal_paper(CALL, "a", "b", start=GOING)[0], "closed")
        start = configuration_with(CALL, {("a", "b"): ("no",)}, a=1)
        self.same(refusal_paper(CALL, "a", "b", start=start), ("run", ()))
        self.same(end_paper(CALL, start=start), ("run", ()))
        # Behind the letters of the start that stay, posts change nothing.
        start = configuration_with(FLOW, {("c", "d"): ("x", "y")})
        self.same(refusal_paper(FLOW, "c", "d", start=start)[0], "closed")
        self.same(finish_paper(HALT, start=configuration_with(HALT, {("c", "d"): ("x",)}))[0], "run")

    def test_more_views(self):
        accepted = 0
        for seed, (network, start) in enumerate(ONE_WAY * 2):
            first = plain.start_of(network, start)
            rng = random.Random(seed)
            views = set(plain.views(network, first))
            states = tuple(rng.randrange(machine[0]) for _, machine in network[0])
            holds = tuple(rng.choice(((), (link[0], "x", 0), (link[1], "y", 0))) for link in network[1])
            more, waiting = set(), [(states, holds)]
            while waiting:
                view = waiting.pop()
                if view not in more:
                    more.add(view)
                    waiting += spec.acts(network, first, view).values()
            value = ("closed", tuple(sorted(views | more)))
            for _, judge, rest, fits in kinds(network):
                wanted = plain.end_paper(network, value, first, fits)
                accepted += wanted and not more <= views
                self.gives(wanted, judge, network, *rest, value, start=start)
                at = rng.randrange(len(value[1]))
                for part in (value[1][:at] + value[1][at + 1:], value[1][:at] + value[1][at:at + 1] + value[1][at:],
                             value[1][::-1], list(value[1])):
                    wanted = plain.end_paper(network, ("closed", part), first, fits)
                    self.gives(wanted, judge, network, *rest, ("closed", part), start=start)
        self.assertGreater(accepted, 60)

    def test_other_runs(self):
        run = (("c", 0), ("d", 1), ("d", 0))
        self.gives(True, is_finish_paper, HALT, ("run", run))
        self.gives(False, is_finish_paper, HALT, ("run", run[:2]))
        self.gives(False, is_end_paper, HALT, ("run", run))
        again = (("a", 0), ("b", 0), ("b", 1), ("a", 1)) * 300
        self.gives(True, is_finish_paper, CALL, ("run", again))
        self.gives(False, is_finish_paper, CALL, ("run", again[:-1]))
        self.gives(False, is_finish_paper, CALL, ("run", again[1:]))
        self.gives(False, is_end_paper, CALL, ("run", again))
        many = (("a", 0),) * 1500
        self.gives(True, is_refusal_paper, PICKY, "a", "b", ("run", many + (("b", 0),)))
        self.gives(False, is_refusal_paper, PICKY, "a", "b", ("run", many))
        self.gives(False, is_refusal_paper, PICKY, "b", "a", ("run", many + (("b", 0),)))

    def test_every_spoiled_part(self):
        right = 0
        for network, start in ((CALL, None), (HALT, None), (FLOW, None), (PICKY, None), (CALL, GOING)):
            first = plain.start_of(network, start)
            for search, judge, rest, fits in kinds(network):
                paper = search(network, *rest, start=start)
                values = list(spoiled(paper, FEW[:10] + ("run", "closed", "x", ()))) + list(ALL)
                values += [(word, value) for value in ALL for word in ("run", "closed")]
                for value in values:
                    wanted = plain.end_paper(network, value, first, fits)
                    right += wanted
                    self.gives(wanted, judge, network, *rest, value, start=start)
        self.assertGreater(right, 10)

    def test_many_views(self):
        self.assertEqual(len(finish_paper(sizes.VIEWS_2000)[1]), 2000)
        self.gives(True, is_finish_paper, sizes.LINKED_2000, finish_paper(sizes.LINKED_2000))
        self.assertEqual(len(refusal_paper(sizes.LINKED_2000, "b", "a")[1]), 2000)
        for network in (sizes.LINKED_2001, sizes.MEET_2001, sizes.BEHIND):
            for search, judge, rest, _ in kinds(network):
                self.fails((TooMany, 2000), search, network, *rest)
                for value in (None, ("run", ()), ("closed", ())):
                    self.fails((TooMany, 2000), judge, network, *rest, value)


class Errors(Case):
    def calls(self, network):
        found = []
        for search, judge, rest, _ in kinds(network):
            found += [(search, rest), (judge, rest + (None,)), (judge, rest + (("run", ()),))]
        return found

    def test_networks_and_starts(self):
        for function, rest in self.calls(CALL):
            for value in unlike(spec.network):
                self.fails(InvalidNetwork, function, value, *rest, start=0)
            for value in unlike(lambda part: part is None or spec.configuration(CALL, part)):
                self.fails(InvalidConfiguration, function, CALL, *rest, start=value)
        for function, rest in self.calls(FLOW):
            self.fails((TooMany, 20), function, FLOW, *rest, start=MORE)
        start = configuration_with(TALKERS, {("u", "v"): ("x",), ("v", "u"): ("x",) * 21})
        for function, rest in self.calls(TALKERS):
            self.fails((Crossed, ()), function, TALKERS, *rest, start=BOTH_WAYS)
            self.fails((TooMany, 20), function, TALKERS, *rest, start=start)
        start = configuration_with(sizes.MEET_2001, {("p", "q"): ("x",), ("q", "p"): ("x",)})
        for function, rest in self.calls(sizes.MEET_2001):
            self.fails((Crossed, ()), function, sizes.MEET_2001, *rest, start=start)

    def test_crossed(self):
        for network, start in CROSSING:
            run = crossing_run(network, start=start)
            for function, rest in self.calls(network):
                self.fails((Crossed, run), function, network, *rest, start=start)

    def test_channels(self):
        for function, rest in ((refusal_paper, ()), (is_refusal_paper, (None,))):
            for value in unlike(lambda part: part in ("mid", "west", "east", "left", "right", "zero"), ALL):
                self.fails((UnknownName, value), function, WIDE, value, 0, *rest, start=0)
                self.fails((UnknownName, value), function, WIDE, "mid", value, *rest, start=0)
            for one, other in (("west", "east"), ("mid", "zero"), ("mid", "mid"), ("left", "west")):
                self.fails(InvalidOperation, function, WIDE, one, other, *rest, start=0)
            self.fails(InvalidConfiguration, function, WIDE, "mid", "west", *rest, start=0)
            self.fails((UnknownName, "x"), function, MEET, "x", "p", *rest)
            self.fails((Crossed, crossing_run(MEET)), function, MEET, "q", "p", *rest)


if __name__ == "__main__":
    unittest.main()
