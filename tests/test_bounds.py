"""[9.1], [9.2] and the functions of halflink.asked.bounds."""

import random
import unittest

from halflink.asked import bounds
from halflink.asked.bounds import greatest_load, is_load_paper, load_of, load_paper, queue_bounds
from halflink.errors import Crossed, InvalidConfiguration, InvalidNetwork, InvalidOperation, TooMany
from halflink.machines.machines import make_machine
from halflink.networks.configurations import configuration_with, first_configuration
from halflink.networks.networks import make_network
from halflink.views.oneway import crossing_run
from tests import plain, sizes, spec
from tests.case import Case
from tests.samples import CALL, FLOW, LONELY, MEET, NONE, TALKERS, WIDE
from tests.walks import BOTH_WAYS, CROSSING, GOING, ONE_WAY, STARTS, TWENTY, walk
from tests.wrong import ALL, FEW, spoiled, unlike

MORE = configuration_with(FLOW, {("c", "d"): ("x",) * 21})

# a asks again and again, and now and then leaves a letter for e.
BUSY = make_network(
    ("a", "b"), ("a", "e"),
    a=make_machine(3, (0, ("send", "b", "go"), 1), (1, ("take", "b", "ok"), 2), (2, ("send", "e", "x"), 0)),
    b=make_machine(2, (0, ("take", "a", "go"), 1), (1, ("send", "a", "ok"), 0)), e=NONE,
)


def weights_fit(network):
    many = 2 * len(network[1])
    return lambda value: value is None or type(value) is tuple and len(value) == many and all(
        spec.whole(part, 0, 1000) for part in value)


def some_weights(seed, network):
    rng = random.Random(seed)
    return tuple(rng.choice((0, 0, 1, 2, 5, 1000)) for _ in spec.channels(network))


class Loads(Case):
    def test_constant(self):
        self.same(bounds.MAX_WEIGHT, 1000)

    def test_document(self):
        self.same([greatest_load(CALL), queue_bounds(CALL), queue_bounds(FLOW), greatest_load(FLOW, weights=(0, 1))],
                  [1, (1, 1), (None, 0), 0])
        self.same(is_load_paper(FLOW, ("unbounded", (("d", 0),), (("c", 0),))), True)

    def test_loads(self):
        for seed, (network, start) in enumerate(STARTS):
            _, passed = walk(seed, network, plain.start_of(network, start), 9)
            for conf in passed[::4]:
                self.gives(sum(len(queue) for queue in conf[1]), load_of, network, conf)
                self.gives(sum(len(queue) for queue in conf[1]), load_of, network, conf, weights=None)
                weights = some_weights(seed, network)
                self.gives(plain.load(network, conf, weights), load_of, network, conf, weights=weights)
        conf = configuration_with(CALL, {("a", "b"): ("x", "y"), ("b", "a"): ("z",)})
        for weights, wanted in (((0, 0), 0), ((1000, 0), 2000), ((0, 1000), 1000), ((1, 3), 5), ((1000, 1000), 3000)):
            self.gives(wanted, load_of, CALL, conf, weights=weights)
        self.gives(0, load_of, LONELY, ((0,), ()), weights=())

    def test_against_searches(self):
        kinds = {}
        for seed, (network, start) in enumerate(ONE_WAY):
            first = plain.start_of(network, start)
            found = plain.reached(network, first, 8, 2000) or plain.reached(network, first, 4, 20000)
            whole = plain.all_reached(network, first, 400)
            for weights in (None, some_weights(seed, network), some_weights(seed + 1, network)):
                paper = load_paper(network, weights=weights, start=start)
                self.gives(paper, load_paper, network, weights=weights, start=start)
                self.assertTrue(plain.load_paper(network, paper, weights, first))
                self.gives(True, is_load_paper, network, paper, weights=weights, start=start)
                kinds[paper[0], whole is None] = kinds.get((paper[0], whole is None), 0) + 1
                loads = [plain.load(network, conf, weights) for conf in whole or found or (first,)]
                if paper[0] == "unbounded":
                    self.gives(None, greatest_load, network, weights=weights, start=start)
                    self.assertIsNone(whole)
                    self.repeated(network, paper, weights, first)
                    continue
                self.same(list(paper[1]), sorted(plain.views(network, first)))
                greatest = max(paper[1].values())
                self.gives(greatest, greatest_load, network, weights=weights, start=start)
                self.assertLessEqual(max(loads), greatest)
                if whole is not None:
                    self.assertEqual(max(loads), greatest)
        self.assertGreater(min(kinds.values()), 20)
        self.assertEqual(len(kinds), 3)

    def repeated(self, network, paper, weights, first):
        _, run, loop = paper
        loads = [plain.load(network, plain.end_of(network, run + loop * many, first), weights) for many in range(5)]
        self.assertEqual(loads, sorted(set(loads)))

    def test_queue_bounds(self):
        for network, start in ONE_WAY:
            first = plain.start_of(network, start)
            wanted = []
            for at, _ in enumerate(spec.channels(network)):
                weights = tuple(int(at == place) for place, _ in enumerate(spec.channels(network)))
                wanted.append(greatest_load(network, weights=weights, start=start))
            self.gives(tuple(wanted), queue_bounds, network, start=start)
            whole = plain.all_reached(network, first, 400)
            if whole is not None:
                self.same(wanted, [max(len(conf[1][at]) for conf in whole) for at, _ in enumerate(wanted)])
        self.gives((), queue_bounds, LONELY)
        self.gives((None, 0), queue_bounds, FLOW, start=TWENTY)
        self.gives((1, 1), queue_bounds, CALL, start=GOING)

    def test_letters_of_the_start(self):
        quiet = make_network(("c", "d"), c=NONE, d=make_machine(1, (0, ("take", "c", "x"), 0)))
        for many in (1, 5, 20):
            start = configuration_with(quiet, {("c", "d"): ("x",) * many})
            self.gives(many, greatest_load, quiet, start=start)
            paper = load_paper(quiet, start=start)
            self.same(sorted(paper[1].values()), list(range(many + 1)))
            self.same(paper[2], ())
            self.gives((many, 0), queue_bounds, quiet, start=start)
        # The letters are taken before others are sent, or stay and others follow.
        once = make_network(("c", "d"), c=make_machine(3, (0, ("send", "d", "x"), 1), (1, ("send", "d", "x"), 2)),
                            d=make_machine(1, (0, ("take", "c", "x"), 0)))
        start = configuration_with(once, {("c", "d"): ("x", "x", "x")})
        self.gives(5, greatest_load, once, start=start)
        self.gives(4, greatest_load, once, start=((1, 0), (("x", "x", "x"), ())))

    def test_a_loop_in_which_letters_are_taken(self):
        paper = load_paper(BUSY)
        self.assertEqual(paper[0], "unbounded")
        self.gives(None, greatest_load, BUSY)
        words = {dict(BUSY[0])[name][2][index][1][0] for name, index in paper[2]}
        self.same(sorted(words), ["send", "take"])
        self.gives(True, is_load_paper, BUSY, paper)
        self.gives(True, is_load_paper, BUSY, ("unbounded", paper[1], paper[2] * 200))
        self.gives((1, None, 1, 0), queue_bounds, BUSY)
        self.gives(1, greatest_load, BUSY, weights=(1, 0, 1, 1))
        self.gives(None, greatest_load, BUSY, weights=(0, 1, 0, 0))
        self.gives(0, greatest_load, BUSY, weights=(0, 0, 0, 1))
        self.gives(1000, greatest_load, BUSY, weights=(1000, 0, 1, 1))

    def test_long_rounds(self):
        # c leaves letters for d and e in turn, with steps between: each queue grows by a round of many acts.
        for many in (2, 3, 6, 14):
            steps = [(at, ("step",), (at + 1) % (2 * many)) for at in range(2 * many) if at % many != 0]
            network = make_network(
                ("c", "d"), ("c", "e"), d=NONE, e=NONE,
                c=make_machine(2 * many, (0, ("send", "d", "x"), 1), (many, ("send", "e", "x"), many + 1), *steps))
            self.gives((None, None, 0, 0), queue_bounds, network)
            for weights in ((1, 0, 0, 0), (0, 1, 0, 0), (1, 1, 1, 1)):
                paper = load_paper(network, weights=weights)
                self.assertTrue(plain.load_paper(network, paper, weights, spec.first(network)))
                self.repeated(network, paper, weights, spec.first(network))
            self.gives(0, greatest_load, network, weights=(0, 0, 5, 5))

    def test_many_views(self):
        self.gives(0, greatest_load, sizes.VIEWS_2000)
        self.gives((0, 0, 0, 0), queue_bounds, sizes.LINKED_2000)
        self.gives((None, 0), queue_bounds, sizes.FLOW_2000)
        self.assertEqual(len(load_paper(sizes.LINKED_2000)[1]), 2000)
        for network in (sizes.VIEWS_2001, sizes.LINKED_2001, sizes.MEET_2001, sizes.BEHIND):
            for function in (greatest_load, load_paper, queue_bounds):
                self.fails((TooMany, 2000), function, network)
        # Judging searches nothing.
        network = sizes.LINKED_2001
        views = [((one, other, third), ((), ())) for one in range(3) for other in range(23) for third in range(29)]
        self.gives(True, is_load_paper, network, ("bounded", {view: 0 for view in views}, ()))
        self.gives(False, is_load_paper, network, ("bounded", {view: 0 for view in views[1:]}, ()))
        self.gives(False, is_load_paper, network, ("bounded", {view: 0 for view in views[:-1]}, ()))
        self.gives(False, is_load_paper, network, ("bounded", {view: 1 for view in views}, ()))


class Papers(Case):
    def test_greater_numbers(self):
        seen = {True: 0, False: 0}
        for seed, (network, start) in enumerate(ONE_WAY * 3):
            first = plain.start_of(network, start)
            weights = some_weights(seed, network)
            paper = load_paper(network, weights=weights, start=start)
            if paper[0] != "bounded":
                continue
            rng = random.Random(seed)
            for _ in range(4):
                numbers = dict(list(paper[1].items())[::rng.choice((1, -1))])
                for view in rng.sample(sorted(numbers), rng.randint(1, len(numbers))):
                    numbers[view] = min(max(numbers.values()), numbers[view] + rng.choice((-1, 0, 1, 1, 2)))
                value = ("bounded", numbers, paper[2])
                wanted = plain.load_paper(network, value, weights, first)
                seen[wanted] += 1
                self.gives(wanted, is_load_paper, network, value, weights=weights, start=start)
        self.assertGreater(min(seen.values()), 40)

    def test_more_views(self):
        accepted = 0
        for seed, (network, start) in enumerate(ONE_WAY * 3):
            first = plain.start_of(network, start)
            weights = some_weights(seed, network)
            paper = load_paper(network, weights=weights, start=start)
            if paper[0] != "bounded":
                continue
            rng = random.Random(seed)
            states = tuple(rng.randrange(machine[0]) for _, machine in network[0])
            holds = tuple(rng.choice(((), (link[0], "x", 0), (link[1], "y", 0))) for link in network[1])
            more, waiting = set(), [(states, holds)]
            while waiting:
                view = waiting.pop()
                if view not in more:
                    more.add(view)
                    waiting += spec.acts(network, first, view).values()
            numbers = dict(paper[1])
            for view in more - set(numbers):
                numbers[view] = -rng.choice((0, 10 ** 39))
            value = ("bounded", numbers, paper[2])
            wanted = plain.load_paper(network, value, weights, first)
            accepted += wanted and len(numbers) > len(paper[1])
            self.gives(wanted, is_load_paper, network, value, weights=weights, start=start)
        self.assertGreater(accepted, 5)

    def test_other_loops(self):
        for value in ((("unbounded", (), (("c", 0),))), ("unbounded", (), (("c", 0),) * 7),
                      ("unbounded", (("c", 0),) * 1200, (("c", 0),) * 300),
                      ("unbounded", (("c", 0), ("d", 1)), (("c", 0), ("c", 0)))):
            self.gives(True, is_load_paper, FLOW, value)
            self.gives(False, is_load_paper, FLOW, ("bounded",) + value[1:])
        for value in (
            ("unbounded", (), ()), ("unbounded", (), (("d", 0),)), ("unbounded", (), (("c", 0), ("d", 0))),
            ("unbounded", (), (("c", 0), ("d", 1))), ("unbounded", (("d", 1),), (("c", 0),)),
            # It takes from a queue that is not empty behind it.
            ("unbounded", (), (("c", 0), ("c", 0), ("d", 1))),
            ("unbounded", (("c", 0),), (("c", 0), ("c", 0), ("d", 1))),
        ):
            self.gives(False, is_load_paper, FLOW, value)
            self.gives(plain.load_paper(FLOW, value, None, spec.first(FLOW)), is_load_paper, FLOW, value)
        self.gives(False, is_load_paper, FLOW, ("unbounded", (), (("c", 0),)), weights=(0, 1000))
        self.gives(True, is_load_paper, FLOW, ("unbounded", (), (("c", 0),)), weights=(1, 1000))
        # The queues behind the loop begin with other letters than before.
        other = make_network(("c", "d"), c=make_machine(1, (0, ("send", "d", "x"), 0), (0, ("send", "d", "y"), 0)),
                             d=make_machine(1, (0, ("take", "c", "x"), 0)))
        self.gives(False, is_load_paper, other, ("unbounded", (("c", 0),), (("d", 0), ("c", 1), ("c", 1))))
        self.gives(True, is_load_paper, other, ("unbounded", (("c", 0), ("d", 0)), (("c", 1), ("c", 0))))
        self.gives(True, is_load_paper, other, ("unbounded", (), (("c", 1),)))

    def test_acts_from_a_view_to_itself(self):
        # The post leads from the held view to itself, so its number would have to be greater than itself.
        views = plain.views(FLOW, spec.first(FLOW))
        for many in (0, 1, 5):
            value = ("bounded", {view: many for view in views}, (("c", 0),) * many)
            self.gives(False, is_load_paper, FLOW, value)
            self.gives(False, is_load_paper, FLOW, value, weights=(1, 0))
            self.gives(many == 0, is_load_paper, FLOW, value, weights=(0, 7))

    def test_loops_that_empty_a_queue(self):
        # The load grows, but a queue with a letter before the loop is empty behind it.
        network = make_network(("c", "d"), ("c", "e"), c=make_machine(1, (0, ("send", "e", "x"), 0)), e=NONE,
                               d=make_machine(1, (0, ("take", "c", "x"), 0)))
        start = configuration_with(network, {("c", "d"): ("x",)})
        self.gives(False, is_load_paper, network, ("unbounded", (), (("d", 0), ("c", 0), ("c", 0))), start=start)
        self.gives(False, is_load_paper, network, ("unbounded", (), (("d", 0), ("c", 0))), start=start)
        self.gives(True, is_load_paper, network, ("unbounded", (), (("c", 0), ("c", 0))), start=start)
        self.gives(True, is_load_paper, network, ("unbounded", (("d", 0),), (("c", 0),)), start=start)

    def test_crossed_starts_and_networks_that_are_not_one_way(self):
        rash = make_network(("p", "q"), p=make_machine(1, (0, ("send", "q", "x"), 0), (0, ("take", "q", "y"), 0)),
                            q=make_machine(1, (0, ("send", "p", "y"), 0), (0, ("take", "p", "x"), 0)))
        start = configuration_with(rash, {("p", "q"): ("x",), ("q", "p"): ("y",)})
        self.gives(True, is_load_paper, rash, ("unbounded", (), (("p", 0),)), start=start)
        self.gives(True, is_load_paper, rash, ("unbounded", (), (("p", 0),)))
        self.gives(True, is_load_paper, rash, ("unbounded", (("q", 0), ("p", 0)), (("p", 0), ("q", 0))))
        self.gives(False, is_load_paper, rash, ("unbounded", (("p", 1),), (("p", 0),)))
        self.gives(True, is_load_paper, rash, ("unbounded", (("p", 1),), (("p", 0),)), start=start)
        still = make_network(("p", "q"), p=NONE, q=NONE)
        start = configuration_with(still, {("p", "q"): ("x",), ("q", "p"): ("y",)})
        views = [((0, 0), (hold,)) for hold in ((), ("p", "x", 1), ("q", "y", 1), ("p", "x", 0))]
        for numbers in ({}, {views[1]: 2}, {views[2]: 2}, {view: 2 for view in views}):
            self.gives(False, is_load_paper, still, ("bounded", numbers, ()), start=start)
        self.gives(True, is_load_paper, still, ("bounded", {views[0]: 0}, ()))
        # Exposed views are refused although the numbers would do.
        numbers = {view: 2 for view in plain.views(MEET, spec.first(MEET))}
        for run in ((), (("p", 0),), (("p", 0), ("q", 0))):
            self.gives(False, is_load_paper, MEET, ("bounded", numbers, run))

    def test_every_spoiled_part(self):
        right = 0
        for network, start, weights in ((CALL, None, None), (CALL, GOING, (2, 0)), (FLOW, None, None),
                                        (FLOW, None, (0, 3)), (BUSY, None, (1, 0, 1, 1))):
            first = plain.start_of(network, start)
            paper = load_paper(network, weights=weights, start=start)
            values = list(spoiled(paper, FEW[:12] + ("bounded", "unbounded", "x", ()))) + list(ALL)
            values += [paper[:at] + (value,) + paper[at + 1:] for value in ALL for at in range(3)]
            if paper[0] == "bounded":
                for view in paper[1]:
                    rest = {key: paper[1][key] for key in paper[1] if key != view}
                    values.append(("bounded", rest, paper[2]))
                    for key in spoiled(view, (True, False, 0, "a", ())):
                        if "[" not in repr(key) and "{" not in repr(key):
                            values.append(("bounded", {**rest, key: paper[1][view]}, paper[2]))
                    for number in (True, False, None, "0", 10 ** 39, -(10 ** 39), paper[1][view] + 1):
                        values.append(("bounded", {**rest, view: number}, paper[2]))
            for value in values:
                wanted = plain.load_paper(network, value, weights, first)
                right += wanted
                self.gives(wanted, is_load_paper, network, value, weights=weights, start=start)
        self.assertGreater(right, 10)


class Errors(Case):
    def test_load_of(self):
        for value in unlike(spec.network):
            self.fails(InvalidNetwork, load_of, value, 0, weights=0)
        for value in unlike(lambda part: spec.configuration(CALL, part)):
            self.fails(InvalidConfiguration, load_of, CALL, value, weights=0)
        for value in unlike(weights_fit(CALL), ALL + ((1001, 0), (0, 1001), (0, -1), (0, True), (0, 0, 0), [0, 0])):
            self.fails(InvalidOperation, load_of, CALL, spec.first(CALL), weights=value)
        self.fails(InvalidOperation, load_of, LONELY, ((0,), ()), weights=(0,))

    def test_all(self):
        for function, rest in ((greatest_load, ()), (load_paper, ()), (is_load_paper, (None,))):
            for value in unlike(spec.network):
                self.fails(InvalidNetwork, function, value, *rest, weights=0, start=0)
            for value in unlike(weights_fit(CALL), ALL + ((1001, 0), (0, 1001), (0, -1), (0, True), (0, 0, 0))):
                self.fails(InvalidOperation, function, CALL, *rest, weights=value, start=0)
            for value in unlike(lambda part: part is None or spec.configuration(WIDE, part)):
                self.fails(InvalidConfiguration, function, WIDE, *rest, start=value)
            self.fails((TooMany, 20), function, FLOW, *rest, start=MORE)
            self.fails(InvalidOperation, function, FLOW, *rest, weights=(1001, 0), start=MORE)
        for value in unlike(spec.network):
            self.fails(InvalidNetwork, queue_bounds, value, start=0)
        for value in unlike(lambda part: part is None or spec.configuration(WIDE, part)):
            self.fails(InvalidConfiguration, queue_bounds, WIDE, start=value)
        self.fails((TooMany, 20), queue_bounds, FLOW, start=MORE)

    def test_crossed(self):
        start = configuration_with(TALKERS, {("u", "v"): ("x",), ("v", "u"): ("x",) * 21})
        for function in (greatest_load, load_paper, queue_bounds):
            self.fails((Crossed, ()), function, TALKERS, start=BOTH_WAYS)
            self.fails((TooMany, 20), function, TALKERS, start=start)
            for network, begun in CROSSING:
                self.fails((Crossed, crossing_run(network, start=begun)), function, network, start=begun)
        self.gives(False, is_load_paper, TALKERS, None, start=BOTH_WAYS)
        self.fails((TooMany, 20), is_load_paper, TALKERS, None, start=start)
        for network, begun in CROSSING:
            self.gives(False, is_load_paper, network, ("unbounded", (), ()), start=begun)
        self.gives(0, greatest_load, CALL, weights=(0, 0), start=first_configuration(CALL))


if __name__ == "__main__":
    unittest.main()
