"""[7.1] to [7.3] and the functions of halflink.asked.reach."""

import random
import unittest

from halflink.asked.reach import (
    is_reach_paper, is_reached, meeting_run, meeting_run_by, quiet_rows, reach_paper, reached_rows, shortest_run,
)
from halflink.errors import (
    Crossed, InvalidConfiguration, InvalidNetwork, InvalidNumber, InvalidOperation, TooMany, UnknownName,
)
from halflink.machines.machines import make_machine
from halflink.networks.configurations import configuration_with, first_configuration
from halflink.networks.networks import make_network, network_from
from halflink.views.oneway import crossing_run
from tests import plain, sizes, spec
from tests.case import Case
from tests.samples import CALL, FLOW, LONELY, MEET, NONE, TALKERS, WIDE
from tests.walks import BOTH_WAYS, CROSSING, GOING, ONE_WAY, TWENTY, walk
from tests.wrong import ALL, FEW, spoiled, unlike

MORE = configuration_with(FLOW, {("c", "d"): ("x",) * 21})
OK = configuration_with(CALL, {("b", "a"): ("ok",)}, a=1)


def asked_from(seed, network, first):
    """Configurations to ask for: on a random run, and others with some letters more, less or changed."""
    rng = random.Random(seed)
    _, passed = walk(seed, network, first, 9)
    found = [rng.choice(passed), passed[-1], first]
    for conf in found[:2]:
        states = tuple(rng.randrange(machine[0]) for _, machine in network[0])
        found.append((states, conf[1]))
        if conf[1]:
            place = rng.randrange(len(conf[1]))
            for queue in (conf[1][place] + ("x",), conf[1][place][1:], ("y",) + conf[1][place]):
                found.append((conf[0], conf[1][:place] + (queue,) + conf[1][place + 1:]))
    return found


class Reached(Case):
    def test_document(self):
        self.same([reach_paper(CALL, OK), reach_paper(CALL, configuration_with(CALL, a=1))[0]],
                  [("run", (("a", 0), ("b", 0), ("b", 1))), "closed"])
        asked = configuration_with(FLOW, {("c", "d"): ("x",) * 9}, d=1)
        self.same([len(shortest_run(FLOW, asked)), is_reached(FLOW, configuration_with(FLOW, {("c", "d"): ("y",)}))],
                  [10, False])
        self.same([list(quiet_rows(CALL)), list(reached_rows(CALL))], [[(0, 0), (1, 1)], [(0, 0), (1, 0), (1, 1)]])
        self.same([meeting_run(CALL, b=1), meeting_run(CALL, a=0, b=1)], [(("a", 0), ("b", 0)), None])

    def test_against_searches_over_configurations(self):
        runs = papers = 0
        for seed, (network, start) in enumerate(ONE_WAY):
            first = plain.start_of(network, start)
            found = plain.reached(network, first, 9, 1500)
            for asked in asked_from(seed, network, first):
                paper = reach_paper(network, asked, start=start)
                self.assertTrue(plain.reach_paper(network, asked, paper, first))
                self.gives(True, is_reach_paper, network, asked, paper, start=start)
                self.gives(paper[0] == "run", is_reached, network, asked, start=start)
                run = shortest_run(network, asked, start=start)
                self.same(run, paper[1] if paper[0] == "run" else None)
                if run is None:
                    papers += 1
                    self.same(paper, ("closed", tuple(sorted(plain.counted_views(network, first, asked)))))
                    self.assertNotIn(asked, found or ())
                else:
                    runs += 1
                    self.assertEqual(plain.end_of(network, run, first), asked)
                    if found is not None and (len(run) <= 9 or asked in found):
                        self.assertEqual(len(run), found[asked])
        self.assertGreater(min(runs, papers), 150)

    def test_every_configuration_of_a_search_is_reached(self):
        for network, start in ONE_WAY[:45:2]:
            first = plain.start_of(network, start)
            found = plain.reached(network, first, 4, 60)
            for conf, number in (found or {}).items():
                self.assertEqual(len(shortest_run(network, conf, start=start)), number)

    def test_the_start_itself(self):
        for network, start in ONE_WAY:
            first = plain.start_of(network, start)
            self.gives(("run", ()), reach_paper, network, first, start=start)
            self.gives(True, is_reach_paper, network, first, ("run", ()), start=start)

    def test_letters_of_the_start(self):
        start = configuration_with(FLOW, {("c", "d"): ("x", "y", "x")})
        # One is taken; the other two stay, with and without sends behind them.
        for queue, state, many in ((("y", "x"), 0, 1), (("y", "x", "x"), 0, 2), (("x", "y", "x"), 1, 1),
                                   (("x", "y", "x", "x", "x"), 1, 3), (("y", "x", "x"), 1, 3)):
            asked = configuration_with(FLOW, {("c", "d"): queue}, d=state)
            run = shortest_run(FLOW, asked, start=start)
            self.assertEqual(len(run), many)
            self.assertEqual(plain.end_of(FLOW, run, start), asked)
        for queue in (("x",), (), ("y", "x", "y"), ("y",), ("x", "x")):
            asked = configuration_with(FLOW, {("c", "d"): queue})
            self.gives(False, is_reached, FLOW, asked, start=start)
        # Never taken, from both ends.
        self.gives(True, is_reached, CALL, GOING, start=GOING)
        asked = configuration_with(FLOW, {("c", "d"): ("x",) * 40}, d=1)
        self.assertEqual(len(shortest_run(FLOW, asked, start=TWENTY)), 21)
        quiet = make_network(("c", "d"), c=NONE, d=sizes.cycle(3))
        start = configuration_with(quiet, {("d", "c"): ("z",)})
        self.gives((("d", 0),), shortest_run, quiet, configuration_with(quiet, {("d", "c"): ("z",)}, d=1), start=start)
        self.gives(False, is_reached, quiet, configuration_with(quiet, d=1), start=start)

    def test_the_same_view_with_different_counts(self):
        # c sends x or y; the view is the same whatever lies behind the first letter.
        network = make_network(("c", "d"), c=make_machine(1, (0, ("send", "d", "x"), 0), (0, ("send", "d", "y"), 0)),
                               d=make_machine(2, (0, ("step",), 1)))
        for queue in (("x",), ("x", "y"), ("x", "x", "y"), ("x", "y", "x", "y", "y"), ("y", "x")):
            asked = configuration_with(network, {("c", "d"): queue}, d=1)
            self.assertEqual(len(shortest_run(network, asked)), len(queue) + 1)
        self.gives(False, is_reached, network, configuration_with(network, {("c", "d"): ("x", "z")}))

    def test_networks_without_links_and_with_several_trees(self):
        self.gives(("run", ()), reach_paper, LONELY, ((0,), ()))
        network = make_network(a=sizes.cycle(3), b=NONE)
        self.gives((("a", 0), ("a", 1)), shortest_run, network, ((2, 0), ()))
        self.gives([(0, 0), (1, 0), (2, 0)], quiet_rows, network)
        trees = make_network(("a", "b"), ("c", "d"), a=CALL[0][0][1], b=CALL[0][1][1], c=sizes.PUSH, d=NONE)
        asked = configuration_with(trees, {("c", "d"): ("x", "x"), ("b", "a"): ("ok",)}, a=1)
        self.assertEqual(len(shortest_run(trees, asked)), 5)

    def test_long_queues(self):
        for many, error in ((1000, False), (1999, False), (2000, True), (5000, True)):
            network = make_network(("c", "d"), c=sizes.PUSH, d=NONE)
            asked = configuration_with(network, {("c", "d"): ("x",) * many})
            wrong = configuration_with(network, {("c", "d"): ("x",) * (many - 1) + ("y",)})
            if error:
                for function in (reach_paper, shortest_run, is_reached):
                    self.fails((TooMany, 2000), function, network, asked)
            else:
                self.same(reach_paper(network, asked), ("run", (("c", 0),) * many))
                self.assertEqual(len(reach_paper(network, wrong)[1]), many)
                self.gives(False, is_reached, network, wrong)
            # Judging does not search.
            self.gives(True, is_reach_paper, network, asked, ("run", (("c", 0),) * many))
            self.gives(False, is_reach_paper, network, asked, ("run", (("c", 0),) * (many - 1)))
        # With so many counted views, it does not matter that the configuration is near.
        network = make_network(("c", "d"), a=sizes.cycle(25), b=sizes.cycle(20), c=sizes.PUSH, d=NONE)
        asked = configuration_with(network, {("c", "d"): ("x",) * 3})
        self.same(reach_paper(network, asked), ("run", (("c", 0),) * 3))
        never = configuration_with(network, {("c", "d"): ("x", "x", "x", "y")})
        self.assertEqual(len(reach_paper(network, never)[1]), 2000)
        asked = configuration_with(network, {("c", "d"): ("x",) * 4})
        self.fails((TooMany, 2000), reach_paper, network, asked)
        self.gives(True, is_reach_paper, network, asked, ("run", (("c", 0),) * 4))

    def test_many_views(self):
        self.gives(("run", ()), reach_paper, sizes.VIEWS_2000, first_configuration(sizes.VIEWS_2000))
        self.assertEqual(len(list(reached_rows(sizes.LINKED_2000))), 2000)
        self.assertEqual(len(list(quiet_rows(sizes.LINKED_2000))), 2000)
        self.assertEqual(len(meeting_run(sizes.VIEWS_2000, a=19, b=9)), 28)
        for network in (sizes.VIEWS_2001, sizes.LINKED_2001, sizes.MEET_2001, sizes.BEHIND):
            first = first_configuration(network)
            for function in (reach_paper, shortest_run, is_reached):
                self.fails((TooMany, 2000), function, network, first)
            self.fails((TooMany, 2000), is_reach_paper, network, first, ("run", ()))
            for function in (quiet_rows, reached_rows, meeting_run):
                self.fails((TooMany, 2000), function, network)
            self.fails((TooMany, 2000), meeting_run_by, network, {})
        run = crossing_run(sizes.MEET_2000)
        self.fails((Crossed, run), quiet_rows, sizes.MEET_2000)


class Papers(Case):
    def test_more_counted_views(self):
        accepted = 0
        for seed, (network, start) in enumerate(ONE_WAY * 2):
            first = plain.start_of(network, start)
            rng = random.Random(seed)
            asked = asked_from(seed, network, first)[-1]
            if is_reached(network, asked, start=start):
                continue
            found = plain.counted_views(network, first, asked)
            states = tuple(rng.randrange(machine[0]) for _, machine in network[0])
            holds = tuple(rng.choice(((), (link[0], "x", 0), (link[1], "y", 0))) for link in network[1])
            counts = tuple(rng.choice((0, 0, 1, 2, 10 ** 39)) for _ in spec.channels(network))
            more, waiting = set(), [((states, holds), counts)]
            while waiting:
                node = waiting.pop()
                if node not in more:
                    more.add(node)
                    waiting += plain.counted_behind(network, first, asked, node)
            value = ("closed", tuple(sorted(found | more)))
            wanted = plain.reach_paper(network, asked, value, first)
            accepted += wanted and not more <= found
            self.gives(wanted, is_reach_paper, network, asked, value, start=start)
            for at in range(0, len(value[1]), 3):
                cut = ("closed", value[1][:at] + value[1][at + 1:])
                wanted = plain.reach_paper(network, asked, cut, first)
                self.gives(wanted, is_reach_paper, network, asked, cut, start=start)
                twice = ("closed", value[1][:at] + value[1][at:at + 1] + value[1][at:])
                self.gives(False, is_reach_paper, network, asked, twice, start=start)
            if len(value[1]) > 1:
                self.gives(False, is_reach_paper, network, asked, ("closed", value[1][::-1]), start=start)
            self.gives(False, is_reach_paper, network, asked, ("closed", list(value[1])), start=start)
        self.assertGreater(accepted, 20)

    def test_counts(self):
        asked = configuration_with(CALL, a=1)
        counted = reach_paper(CALL, asked)[1]
        for counts, wanted in (((0, 0), True), ((10 ** 39, 7), True), ((-1, 0), False), ((0, -(10 ** 39)), False),
                               ((True, 0), False), ((0,), False), ((0, 0, 0), False), ([0, 0], False)):
            odd = (((1, 1), (("a", "odd", 0),)), counts)
            if type(counts) is tuple:
                value = ("closed", tuple(sorted(counted + (odd,))))
                self.gives(wanted, is_reach_paper, CALL, asked, value)
            self.gives(False, is_reach_paper, CALL, asked, ("closed", (odd,)))

    def test_runs_that_are_not_shortest(self):
        run = (("a", 0), ("b", 0), ("b", 1), ("a", 1)) * 300 + (("a", 0), ("b", 0), ("b", 1))
        self.gives(True, is_reach_paper, CALL, OK, ("run", run))
        self.gives(False, is_reach_paper, CALL, OK, ("run", run[:-1]))
        self.gives(False, is_reach_paper, CALL, OK, ("run", run[1:]))
        self.gives(False, is_reach_paper, CALL, OK, ("closed", run))
        self.gives(False, is_reach_paper, CALL, OK, ("closed", ()))

    def test_every_spoiled_part(self):
        for network, start, asked in (
            (CALL, None, OK), (CALL, GOING, OK), (CALL, None, configuration_with(CALL, a=1)),
            (CALL, GOING, configuration_with(CALL, {("a", "b"): ("go", "go")}, a=1)),
            (FLOW, configuration_with(FLOW, {("c", "d"): ("x",)}), configuration_with(FLOW, {("c", "d"): ("y",)})),
        ):
            first = plain.start_of(network, start)
            paper = reach_paper(network, asked, start=start)
            for value in list(spoiled(paper, FEW[:12] + ("run", "closed", "x", ()))) + list(ALL):
                wanted = plain.reach_paper(network, asked, value, first)
                self.gives(wanted, is_reach_paper, network, asked, value, start=start)
            for value in ALL:
                self.gives(False, is_reach_paper, network, asked, ("closed", value), start=start)
                wanted = plain.reach_paper(network, asked, ("run", value), first)
                self.gives(wanted, is_reach_paper, network, asked, ("run", value), start=start)


class Rows(Case):
    def test_rows(self):
        for network, start in ONE_WAY:
            views = plain.views(network, plain.start_of(network, start))
            self.gives(sorted({view[0] for view in views}), reached_rows, network, start=start)
            self.gives(sorted({view[0] for view in views if not any(view[1])}), quiet_rows, network, start=start)

    def test_against_searches_over_configurations(self):
        for network, start in ONE_WAY:
            first = plain.start_of(network, start)
            found = plain.reached(network, first, 8, 1500)
            if found is None:
                continue
            rows, quiet = list(reached_rows(network, start=start)), list(quiet_rows(network, start=start))
            self.assertLessEqual({conf[0] for conf in found}, set(rows))
            self.assertLessEqual({conf[0] for conf in found if not any(conf[1])}, set(quiet))
            for row in rows:
                run = meeting_run_by(network, dict(zip(dict(network[0]), row)), start=start)
                self.assertEqual(plain.end_of(network, run, first)[0], row)
                least = [number for conf, number in found.items() if conf[0] == row]
                if least or len(run) <= 8:
                    self.assertEqual(len(run), min(least))
            for row in quiet:
                conf = (row, tuple(() for _ in first[1]))
                self.gives(True, is_reached, network, conf, start=start)

    def test_meeting_some_states(self):
        for seed, (network, start) in enumerate(ONE_WAY):
            first = plain.start_of(network, start)
            rng = random.Random(seed)
            names = [name for name, _ in network[0]]
            given = rng.sample(names, rng.randint(0, len(names)))
            states = {name: rng.randrange(dict(network[0])[name][0]) for name in given}
            run = meeting_run_by(network, states, start=start)
            fits = [number for view, number in plain.views(network, first).items()
                    if all(view[0][names.index(name)] == state for name, state in states.items())]
            self.assertEqual(None if run is None else len(run), min(fits) if fits else None)
            if "start" not in states and "network" not in states:
                self.gives(run, meeting_run, network, start=start, **states)
            if run is not None:
                conf = plain.end_of(network, run, first)
                self.assertTrue(all(conf[0][names.index(name)] == state for name, state in states.items()))
            self.gives((), meeting_run, network, start=start)
            self.gives((), meeting_run_by, network, {}, start=start)

    def test_names_that_are_parameters(self):
        network = network_from({"network": sizes.cycle(3), "start": sizes.cycle(2)}, ())
        self.gives((("network", 0), ("network", 1), ("start", 0)), meeting_run_by, network, {"start": 1, "network": 2})


class Errors(Case):
    def all_calls(self, network):
        first = spec.first(network)
        return [(reach_paper, (first,)), (shortest_run, (first,)), (is_reached, (first,)), (quiet_rows, ()),
                (reached_rows, ()), (meeting_run, ()), (meeting_run_by, ({},)), (is_reach_paper, (first, None)),
                (is_reach_paper, (first, ("run", ())))]

    def test_networks_and_starts(self):
        for function, rest in self.all_calls(WIDE):
            for value in unlike(spec.network):
                self.fails(InvalidNetwork, function, value, *rest, start=0)
            for value in unlike(lambda part: part is None or spec.configuration(WIDE, part)):
                self.fails(InvalidConfiguration, function, WIDE, *rest, start=value)
        for function, rest in self.all_calls(FLOW):
            self.fails((TooMany, 20), function, FLOW, *rest, start=MORE)
        for function, rest in self.all_calls(TALKERS):
            self.fails((Crossed, ()), function, TALKERS, *rest, start=BOTH_WAYS)
            start = configuration_with(TALKERS, {("u", "v"): ("x",), ("v", "u"): ("x",) * 21})
            self.fails((TooMany, 20), function, TALKERS, *rest, start=start)
        start = configuration_with(sizes.MEET_2001, {("p", "q"): ("x",), ("q", "p"): ("x",)})
        for function, rest in self.all_calls(sizes.MEET_2001):
            self.fails((Crossed, ()), function, sizes.MEET_2001, *rest, start=start)

    def test_crossed(self):
        for network, start in CROSSING:
            run = crossing_run(network, start=start)
            for function, rest in self.all_calls(network):
                self.fails((Crossed, run), function, network, *rest, start=start)

    def test_configurations_come_before_starts(self):
        for value in unlike(lambda part: spec.configuration(CALL, part)):
            for function in (reach_paper, shortest_run, is_reached):
                self.fails(InvalidConfiguration, function, CALL, value, start=0)
            self.fails(InvalidConfiguration, is_reach_paper, CALL, value, None, start=0)
        for value in unlike(lambda part: spec.configuration(MEET, part)):
            self.fails(InvalidConfiguration, reach_paper, MEET, value)

    def test_states(self):
        for function in (meeting_run_by,):
            for value in unlike(lambda part: type(part) is dict and all(type(key) is str for key in part)):
                self.fails(InvalidOperation, function, CALL, value, start=0)
            self.fails((UnknownName, "c"), function, CALL, {"d": 0, "c": 9, "a": 9}, start=0)
            self.fails((UnknownName, ""), function, CALL, {"a": 0, "": 0}, start=0)
            for value in unlike(lambda part: spec.whole(part, 0, 1)):
                self.fails((InvalidNumber, value), function, CALL, {"b": 7, "a": value}, start=0)
                self.fails((InvalidNumber, value), function, CALL, {"b": value, "a": 1}, start=0)
            self.fails((Crossed, crossing_run(MEET)), function, MEET, {})
            self.fails((InvalidNumber, 2), function, MEET, {"q": 2})
        self.fails((UnknownName, "c"), meeting_run, CALL, c=0, start=0)
        self.fails((InvalidNumber, 2), meeting_run, CALL, a=2, start=0)
        self.fails(InvalidConfiguration, meeting_run, CALL, a=1, start=0)


if __name__ == "__main__":
    unittest.main()
