"""Stages 6 to 9, 14 and 15 for networks with machines and links that have nothing to do with one another.

Such networks have very many views, although each of their parts has only few.
"""

import random
import unittest

from halflink.asked.bounds import greatest_load, is_load_paper, load_paper, queue_bounds
from halflink.asked.ends import (
    end_paper, finish_paper, is_end_paper, is_finish_paper, is_refusal_paper, refusal_paper,
)
from halflink.asked.reach import is_reach_paper, meeting_run_by, quiet_rows, reach_paper, reached_rows
from halflink.desk.desk import Desk
from halflink.engine.within import is_quiet_paper, quiet_paper
from halflink.errors import Crossed, TooMany
from halflink.machines.machines import machine_from, make_machine
from halflink.networks.configurations import configuration_with
from halflink.networks.networks import make_network, network_from
from halflink.views.oneway import (
    crossing_run, is_nearest_paper, is_one_way, is_one_way_paper, nearest_paper, one_way_paper, view_numbers,
)
from tests import plain, sizes, spec
from tests.case import Case
from tests.samples import NONE, random_start
from tests.sizes import cycle
from tests.test_within import numbers as row_numbers


def loose_network(seed):
    """A network in which many links have deeds of one end alone, or none, and machines have none over some links."""
    rng = random.Random(seed)
    names = rng.sample(["a", "bb", "c", "m", "zz"], rng.randint(2, 4))
    links = [(names[at], rng.choice(names[:at])) for at in range(1, len(names)) if rng.random() < 0.9]
    machines = {}
    for name in names:
        near = [end for link in links if name in link for end in link if end != name]
        near = [end for end in near if rng.random() < 0.5]
        deeds = [("step",)] + [(word, end, letter) for word in ("send", "take") for end in near for letter in "xy"]
        size = rng.randint(1, 3)
        rows = [(rng.randrange(size), rng.choice(deeds), rng.randrange(size)) for _ in range(rng.randint(0, 4))]
        machines[name] = machine_from(size, tuple(rows), tuple(rng.sample(range(size), rng.randint(0, size))))
    return network_from(machines, tuple(links))


LOOSE = [(loose_network(seed), None) for seed in range(60)] + [
    (loose_network(seed), random_start(seed, loose_network(seed), crossed=False)) for seed in range(60, 140)]


class Parts(Case):
    def one_way(self):
        for network, start in LOOSE:
            first = plain.start_of(network, start)
            views = plain.views(network, first)
            if not any(spec.exposed(network, view) for view in views):
                yield network, start, first, views

    def test_crossings(self):
        seen = {True: 0, False: 0}
        for network, start in LOOSE:
            first = plain.start_of(network, start)
            views = plain.views(network, first)
            exposed = [number for view, number in views.items() if spec.exposed(network, view)]
            seen[not exposed] += 1
            self.gives(not exposed, is_one_way, network, start=start)
            self.gives(sorted(views.items(), key=lambda pair: (pair[1], pair[0])), view_numbers, network, start=start)
            self.assertEqual(Desk(network, start=start).view_count(), len(views))
            paper = one_way_paper(network, start=start)
            self.assertTrue(plain.one_way_paper(network, paper, first))
            self.gives(True, is_one_way_paper, network, paper, start=start)
            if exposed:
                self.assertEqual(len(crossing_run(network, start=start)), min(exposed) + 1)
                near = nearest_paper(network, start=start)
                self.assertTrue(plain.nearest_paper(network, near, first))
                self.gives(True, is_nearest_paper, network, near, start=start)
                self.same(list(near[1]), sorted(near[1]))
            else:
                self.same(paper, ("closed", tuple(sorted(views))))
        self.assertGreater(min(seen.values()), 10)

    def test_rows_and_meetings(self):
        for seed, (network, start, first, views) in enumerate(self.one_way()):
            rng = random.Random(seed)
            self.gives(sorted({view[0] for view in views}), reached_rows, network, start=start)
            self.gives(sorted({view[0] for view in views if not any(view[1])}), quiet_rows, network, start=start)
            states = {name: rng.randrange(machine[0]) for name, machine in network[0] if rng.random() < 0.7}
            asked = {[name for name, _ in network[0]].index(name): state for name, state in states.items()}
            wanted = [number for view, number in views.items() if all(view[0][at] == asked[at] for at in asked)]
            run = meeting_run_by(network, states, start=start)
            self.assertEqual(run is None, not wanted)
            if wanted:
                self.assertEqual(len(run), min(wanted))
                behind = plain.end_of(network, run, first)
                self.assertTrue(all(behind[0][at] == asked[at] for at in asked))
            row = tuple(rng.randrange(machine[0]) for _, machine in network[0])
            paper, found = quiet_paper(network, row), row_numbers(network)
            self.gives(True, is_quiet_paper, network, row, paper)
            self.assertEqual(len(paper[1]), found[row] if row in found else len(found))

    def test_reached_configurations(self):
        seen = {"run": 0, "closed": 0}
        for seed, (network, start, first, _) in enumerate(self.one_way()):
            rng = random.Random(seed)
            conf = first
            for _ in range(rng.randint(0, 6)):
                found = spec.steps(network, conf)
                if found:
                    conf = found[rng.choice(sorted(found))]
            other = random_start(seed, network, crossed=False)
            for asked in (conf, other, (other[0], conf[1]), (conf[0], first[1])):
                counted = plain.counted_views(network, first, asked)
                paper = reach_paper(network, asked, start=start)
                seen[paper[0]] += 1
                self.assertTrue(plain.reach_paper(network, asked, paper, first))
                self.gives(True, is_reach_paper, network, asked, paper, start=start)
                met = [node for node in counted if plain.met(network, first, asked, node)]
                self.assertEqual(paper[0], "run" if met else "closed")
                if not met:
                    self.same(paper[1], tuple(sorted(counted)))
            reached = plain.reached(network, first, 6, 2000)
            if reached and conf in reached:
                self.assertEqual(len(reach_paper(network, conf, start=start)[1]), reached[conf])
        self.assertGreater(min(seen.values()), 40)

    def test_ends(self):
        seen = {}
        for network, start, first, views in self.one_way():
            kinds = [(end_paper, is_end_paper, (), plain.dead), (finish_paper, is_finish_paper, (), plain.finished)]
            for one, other in spec.channels(network):
                kinds.append((refusal_paper, is_refusal_paper, (one, other), lambda net, conf, pair=(one, other): (
                    pair in plain.refusing(net, conf))))
            for search, judge, rest, fits in kinds:
                wanted = [number for view, number in views.items() if fits(network, plain.seen(network, view))]
                paper = search(network, *rest, start=start)
                seen[search, paper[0]] = seen.get((search, paper[0]), 0) + 1
                self.assertTrue(plain.end_paper(network, paper, first, fits))
                self.gives(True, judge, network, *rest, paper, start=start)
                self.assertEqual(len(paper[1]), min(wanted) if wanted else len(views))
                self.assertEqual(paper[0], "run" if wanted else "closed")
        self.assertEqual(len(seen), 6)

    def test_loads(self):
        seen = {"bounded": 0, "unbounded": 0}
        for seed, (network, start, first, views) in enumerate(self.one_way()):
            rng = random.Random(seed)
            for weights in (None, tuple(rng.choice((0, 1, 7)) for _ in spec.channels(network))):
                paper = load_paper(network, weights=weights, start=start)
                seen[paper[0]] += 1
                self.assertTrue(plain.load_paper(network, paper, weights, first))
                self.gives(True, is_load_paper, network, paper, weights=weights, start=start)
                greatest = greatest_load(network, weights=weights, start=start)
                if paper[0] == "unbounded":
                    self.assertIsNone(greatest)
                else:
                    self.same(list(paper[1]), sorted(views))
                    self.same(greatest, max(paper[1].values()))
            rows = [tuple(int(at == place) for at in range(2 * len(network[1]))) for place in range(2 * len(network[1]))]
            self.gives(tuple(greatest_load(network, weights=row, start=start) for row in rows), queue_bounds, network,
                       start=start)
        self.assertGreater(min(seen.values()), 20)


class Sizes(Case):
    def test_2000_and_2001_views_of_several_parts(self):
        # 2 * 4 * 250 = 2000: a pair that is free or held, a ring, and a link between rings without any deed over it.
        pair = {"c": make_machine(1, (0, ("send", "d", "x"), 0)), "d": NONE}
        links = (("c", "d"), ("d", "e"), ("e", "f"), ("f", "g"))
        small = make_network(*links, e=cycle(4), f=cycle(25), g=cycle(10), **pair)
        self.assertEqual(len(one_way_paper(small)[1]), 2000)
        self.gives(True, is_one_way_paper, small, one_way_paper(small))
        self.assertEqual((Desk(small).view_count(), queue_bounds(small)[0]), (2000, None))
        for network in (make_network(*links, e=cycle(4), f=cycle(25), g=cycle(11), **pair), sizes.LINKED_2001):
            for function in (is_one_way, crossing_run, one_way_paper, nearest_paper, view_numbers, quiet_rows, end_paper,
                             finish_paper, greatest_load, load_paper, queue_bounds):
                self.fails((TooMany, 2000), function, network)
            self.fails((TooMany, 2000), reach_paper, network, spec.first(network))
            self.fails((TooMany, 2000), Desk(network).view_count)

    def test_crossings_are_searched_behind_all_views(self):
        # There is a crossing in one part, but the whole has too many views.
        meet = {"p": make_machine(2, (0, ("send", "q", "x"), 1)), "q": make_machine(1, (0, ("send", "p", "y"), 0))}
        for many, error in ((22, Crossed), (30, TooMany)):
            network = make_network(("p", "q"), a=cycle(many), b=cycle(30), **meet)
            self.fails(error, end_paper, network)
            if error is Crossed:
                self.assertEqual(len(crossing_run(network)), 2)
            else:
                self.fails((TooMany, 2000), crossing_run, network)

    def test_letters_over_links_without_deeds(self):
        network = make_network(("a", "b"), ("b", "c"), a=cycle(2), b=NONE, c=make_machine(1, finals=(0,)))
        start = configuration_with(network, {("a", "b"): ("x", "y"), ("c", "b"): ("z",)})
        holds = (("a", "x", 2), ("c", "z", 1))
        views = (((0, 0, 0), holds), ((1, 0, 0), holds))
        self.gives(("closed", views), one_way_paper, network, start=start)
        self.gives(((0, 0, 0), start[1]), lambda: plain.end_of(network, (), start))
        self.gives(("run", (("a", 0),)), reach_paper, network, ((1, 0, 0), start[1]), start=start)
        self.gives("closed", lambda: reach_paper(network, spec.first(network), start=start)[0])
        self.gives((2, 0, 0, 1), queue_bounds, network, start=start)
        self.gives(3, greatest_load, network, start=start)
        self.gives("closed", lambda: finish_paper(network, start=start)[0])
        self.gives("closed", lambda: end_paper(network, start=start)[0])

    def test_counted_views_of_several_parts(self):
        # The counts of both channels go up one by one: 40 * 50 = 2000 counted views, or 41 * 49 = 2009.
        push = {name: make_machine(1, (0, ("send", other, "x"), 0)) for name, other in (("a", "b"), ("c", "d"))}
        network = make_network(("a", "b"), ("c", "d"), b=NONE, d=NONE, **push)
        for one, two, error in ((39, 49, None), (40, 48, TooMany)):
            asked = configuration_with(network, {("a", "b"): ("x",) * one, ("c", "d"): ("x",) * two})
            if error is None:
                self.assertEqual(len(reach_paper(network, asked)[1]), one + two)
            else:
                self.fails((TooMany, 2000), reach_paper, network, asked)


if __name__ == "__main__":
    unittest.main()
