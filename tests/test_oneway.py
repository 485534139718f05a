"""[6.1] to [6.4] and the functions of halflink.views.oneway."""

import random
import unittest

from halflink.errors import Crossed, InvalidConfiguration, InvalidNetwork, TooMany
from halflink.machines.machines import make_machine
from halflink.networks.configurations import configuration_with, first_configuration
from halflink.networks.networks import make_network
from halflink.views import oneway
from halflink.views.oneway import (
    crossing_run, is_nearest_paper, is_one_way, is_one_way_paper, nearest_paper, one_way_paper, view_numbers,
)
from halflink.views.views import first_view, is_exposed, possible_acts
from tests import plain, sizes, spec
from tests.case import Case
from tests.samples import CALL, FLOW, LONELY, MEET, TALKERS, WIDE
from tests.walks import BOTH_WAYS, CROSSING, GOING, LETTERS, ONE_WAY, STARTS, TWENTY
from tests.wrong import ALL, FEW, spoiled, unlike

SEARCHES = (is_one_way, crossing_run, one_way_paper, nearest_paper)
JUDGES = (is_one_way_paper, is_nearest_paper)
MORE = configuration_with(FLOW, {("c", "d"): ("x",) * 21})


class OneWay(Case):
    def test_constant(self):
        self.same(oneway.MAX_VIEWS, 2000)

    def test_document(self):
        self.same([is_one_way(CALL), crossing_run(CALL), len(crossing_run(MEET))], [True, None, 2])
        self.gives([(((0, 0), ((),)), 0), (((0, 1), (("q", "y", 0),)), 1), (((1, 0), (("p", "x", 0),)), 1),
                    (((1, 1), ((),)), 2)], view_numbers, MEET)
        self.same([one_way_paper(CALL)[0], is_one_way_paper(MEET, ("crossing", (("q", 0), ("p", 0))))],
                  ["closed", True])
        numbers = {((0, 0), ((),)): 0, ((0, 1), (("q", "y", 0),)): 1, ((1, 0), (("p", "x", 0),)): 1}
        self.same(is_nearest_paper(MEET, ((("p", 0), ("q", 0)), numbers)), True)

    def test_both_kinds_are_there(self):
        for cases in (ONE_WAY, CROSSING):
            self.assertGreater(len([1 for _, start in cases if start is not None]), 20)
            self.assertGreater(len([1 for _, start in cases if start is None]), 8)

    def test_against_searches_over_configurations(self):
        looked = 0
        for network, start in STARTS:
            first = plain.start_of(network, start)
            run = crossing_run(network, start=start)
            self.gives(run, crossing_run, network, start=start)
            self.gives(run is None, is_one_way, network, start=start)
            self.gives((network, start) in ONE_WAY, is_one_way, network, start=start)
            found = plain.reached(network, first, 6)
            if found is None:
                continue
            least = [number for conf, number in found.items() if spec.crossed(network, conf)]
            if least:
                self.assertEqual(len(run), min(least))
                looked += 1
            else:
                self.assertTrue(run is None or len(run) > 6)
            if run is not None:
                self.assertTrue(spec.crossed(network, plain.end_of(network, run, first)))
        self.assertGreater(looked, 25)

    def test_numbers(self):
        for network, start in STARTS:
            wanted = plain.views(network, plain.start_of(network, start))
            found = list(view_numbers(network, start=start))
            self.same(found, sorted(wanted.items(), key=lambda pair: (pair[1], pair[0])))
        self.gives([(((0,), ()), 0)], view_numbers, LONELY)
        self.same(list(view_numbers(CALL, start=GOING))[:3],
                  [(((1, 0), (("a", "go", 1),)), 0), (((1, 1), ((),)), 1), (((1, 0), (("b", "ok", 0),)), 2)])

    def test_two_linked_machines_that_can_both_send(self):
        # [6.1], from starts without letters
        for network, start in STARTS:
            first = plain.start_of(network, start)
            found = plain.reached(network, first, 5)
            if any(first[1]) or found is None or (network, start) not in ONE_WAY:
                continue
            for conf in found:
                sends = {(name, deed[1]) for (name, machine), state in zip(network[0], conf[0])
                         for before, deed, _ in machine[2] if before == state and deed[0] == "send"}
                self.assertFalse([pair for pair in sends if pair[::-1] in sends])

    def test_crossed_starts(self):
        self.gives(False, is_one_way, TALKERS, start=BOTH_WAYS)
        self.gives((), crossing_run, TALKERS, start=BOTH_WAYS)
        self.gives(("crossing", ()), one_way_paper, TALKERS, start=BOTH_WAYS)
        self.gives(((), {}), nearest_paper, TALKERS, start=BOTH_WAYS)
        self.fails((Crossed, ()), view_numbers, TALKERS, start=BOTH_WAYS)
        self.gives(True, is_one_way_paper, TALKERS, ("crossing", ()), start=BOTH_WAYS)
        self.gives(True, is_one_way_paper, TALKERS, ("crossing", (("u", 0),)), start=BOTH_WAYS)
        # The takes of v empty one of the queues.
        self.gives(False, is_one_way_paper, TALKERS, ("crossing", (("v", 1),)), start=BOTH_WAYS)
        for value in ((), {}), [(), {}], ((), ()), ((("u", 0),), {}), ((), {((0, 0), ((),)): 0}), ([], {}), (None, {}):
            self.gives(value == ((), {}), is_nearest_paper, TALKERS, value, start=BOTH_WAYS)
        for states in ((0, 0), (1, 1)):
            views = tuple(sorted((states, (hold,)) for hold in ((), ("u", "x", 0), ("v", "y", 0))))
            self.gives(False, is_one_way_paper, TALKERS, ("closed", views), start=BOTH_WAYS)
        self.gives(False, is_one_way_paper, TALKERS, ("closed", ()), start=BOTH_WAYS)
        still = make_network(("p", "q"), p=make_machine(1), q=make_machine(1))
        start = configuration_with(still, {("p", "q"): ("x",), ("q", "p"): ("y",)})
        for holds in ([("p", "x", 1)], [("q", "y", 1)], [("p", "x", 1), ("q", "y", 1)],
                      [(), ("p", "x", 1), ("q", "y", 1)]):
            views = tuple(((0, 0), (hold,)) for hold in holds)
            self.gives(False, is_one_way_paper, still, ("closed", views), start=start)
        self.gives(True, is_one_way_paper, still, ("closed", (((0, 0), ((),)),)))
        # The start is crossed, so nothing is searched, however many views there would be.
        start = configuration_with(sizes.MEET_2001, {("p", "q"): ("x",), ("q", "p"): ("x",)})
        for function, wanted in zip(SEARCHES, (False, (), ("crossing", ()), ((), {}))):
            self.gives(wanted, function, sizes.MEET_2001, start=start)
        self.fails((Crossed, ()), view_numbers, sizes.MEET_2001, start=start)

    def test_twenty_letters(self):
        for function in SEARCHES + (view_numbers,):
            self.fails((TooMany, 20), function, FLOW, start=MORE)
        for function in JUDGES:
            for value in (None, ("crossing", ()), ("closed", ()), ((), {})):
                self.fails((TooMany, 20), function, FLOW, value, start=MORE)
        self.gives(True, is_one_way, FLOW, start=TWENTY)
        self.assertEqual(len(list(view_numbers(FLOW, start=TWENTY))), len(plain.views(FLOW, TWENTY)))
        # Too many letters come before crossed links.
        start = configuration_with(TALKERS, {("u", "v"): ("x",), ("v", "u"): ("x",) * 21})
        for function in SEARCHES + (view_numbers,):
            self.fails((TooMany, 20), function, TALKERS, start=start)
        for function in JUDGES:
            self.fails((TooMany, 20), function, TALKERS, ((), {}), start=start)

    def test_views_2000_and_2001(self):
        for network in (sizes.VIEWS_2000, sizes.LINKED_2000):
            self.gives(True, is_one_way, network)
            self.assertEqual(len(one_way_paper(network)[1]), 2000)
            self.assertEqual(len(list(view_numbers(network))), 2000)
            self.gives(None, nearest_paper, network)
        self.assertEqual(len(list(view_numbers(sizes.FLOW_2000))), 2000)
        self.gives(False, is_one_way, sizes.MEET_2000)
        self.assertEqual(len(crossing_run(sizes.MEET_2000)), 2)
        self.assertEqual(len(list(view_numbers(sizes.MEET_2000))), 2000)
        for network in (sizes.VIEWS_2001, sizes.LINKED_2001, sizes.MEET_2001, sizes.BEHIND):
            for function in SEARCHES + (view_numbers,):
                self.fails((TooMany, 2000), function, network)

    def test_judging_many_views(self):
        network = sizes.LINKED_2001
        views = tuple(((one, other, third), ((), ())) for one in range(3) for other in range(23) for third in range(29))
        self.gives(True, is_one_way_paper, network, ("closed", views))
        self.gives(False, is_one_way_paper, network, ("closed", views[:-1]))
        run = (("p", 0), ("q", 0))
        self.gives(True, is_one_way_paper, sizes.MEET_2001, ("crossing", run))
        first = first_view(sizes.MEET_2001)
        paper = (run, {first: 0})
        self.gives(False, is_nearest_paper, sizes.MEET_2001, paper)
        numbers = {first: 0, **{view: 1 for _, view in possible_acts(sizes.MEET_2001, first)}}
        self.gives(True, is_nearest_paper, sizes.MEET_2001, (run, numbers))

    def test_long_ways_to_crossings(self):
        # p makes 28 steps and q 29 before they can send to each other.
        steps = [(state, ("step",), state + 1) for state in range(28)]
        network = make_network(("p", "q"), p=make_machine(30, *steps, (28, ("send", "q", "x"), 28)),
                               q=make_machine(30, *steps, (28, ("step",), 29), (29, ("send", "p", "x"), 29)))
        run = crossing_run(network)
        self.assertEqual(len(run), 28 + 29 + 2)
        paper = nearest_paper(network)
        self.gives(True, is_nearest_paper, network, paper)
        self.assertTrue(plain.nearest_paper(network, paper, spec.first(network)))


class Papers(Case):
    def test_one_way_papers(self):
        for network, start in STARTS:
            paper = one_way_paper(network, start=start)
            self.gives(paper, one_way_paper, network, start=start)
            self.gives(True, is_one_way_paper, network, paper, start=start)
            first = plain.start_of(network, start)
            self.assertTrue(plain.one_way_paper(network, paper, first))
            self.assertEqual(paper[0], "closed" if (network, start) in ONE_WAY else "crossing")
            # Never papers of both kinds.
            views = tuple(sorted(plain.views(network, first)))
            self.gives((network, start) in ONE_WAY, is_one_way_paper, network, ("closed", views), start=start)

    def test_more_views(self):
        # The views that all starting views of the network lead to, whether paths lead to them or not.
        accepted = 0
        for seed, (network, start) in enumerate(ONE_WAY):
            first = plain.start_of(network, start)
            views = set(plain.views(network, first))
            states = tuple(random.Random(seed).randrange(machine[0]) for _, machine in network[0])
            more = (states, tuple((link[seed % 2], "q", 0) for link in network[1]))
            waiting = [more]
            found = set()
            while waiting:
                view = waiting.pop()
                if view not in found:
                    found.add(view)
                    waiting += spec.acts(network, first, view).values()
            value = ("closed", tuple(sorted(views | found)))
            wanted = not any(spec.exposed(network, view) for view in found)
            accepted += wanted and not found <= views
            self.gives(wanted, is_one_way_paper, network, value, start=start)
            alone = ("closed", tuple(sorted(found)))
            self.gives(plain.one_way_paper(network, alone, first), is_one_way_paper, network, alone, start=start)
            left_out = tuple(sorted((views | found) - {first_view(network, start=start)}))
            self.gives(False, is_one_way_paper, network, ("closed", left_out), start=start)
        self.assertGreater(accepted, 10)

    def test_views_left_out_twice_and_turned_about(self):
        for network, start in ONE_WAY[:30]:
            views = one_way_paper(network, start=start)[1]
            for at in range(len(views)):
                self.gives(False, is_one_way_paper, network, ("closed", views[:at] + views[at + 1:]), start=start)
                self.gives(False, is_one_way_paper, network, ("closed", views[:at] + views[at:at + 1] + views[at:]),
                           start=start)
            if len(views) > 1:
                self.gives(False, is_one_way_paper, network, ("closed", views[::-1]), start=start)
            self.gives(False, is_one_way_paper, network, ("closed", list(views)), start=start)
            self.gives(False, is_one_way_paper, network, ("crossing", views), start=start)
            self.gives(False, is_one_way_paper, network, ("crossing", ()), start=start)

    def test_every_spoiled_part(self):
        right = 0
        for network, start in ONE_WAY[:6] + CROSSING[:8] + ONE_WAY[-4:]:
            first = plain.start_of(network, start)
            paper = one_way_paper(network, start=start)
            if len(repr(paper)) > 600:
                continue
            for value in spoiled(paper, FEW[:12] + ("closed", "crossing", ((), ()))):
                wanted = plain.one_way_paper(network, value, first)
                right += wanted
                self.gives(wanted, is_one_way_paper, network, value, start=start)
        self.assertGreater(right, 3)
        for value in ALL:
            for network, start in ((CALL, None), (MEET, None), (TALKERS, BOTH_WAYS), (FLOW, TWENTY)):
                self.gives(False, is_one_way_paper, network, value, start=start)
                self.gives(False, is_one_way_paper, network, ("closed", value), start=start)
                wanted = plain.one_way_paper(network, ("crossing", value), plain.start_of(network, start))
                self.gives(wanted, is_one_way_paper, network, ("crossing", value), start=start)

    def test_runs_that_cross_earlier(self):
        rash = make_network(("p", "q"), p=make_machine(1, (0, ("send", "q", "x"), 0), (0, ("take", "q", "y"), 0)),
                            q=make_machine(1, (0, ("send", "p", "y"), 0), (0, ("take", "p", "x"), 0)))
        run = (("p", 0), ("q", 0), ("q", 1), ("p", 0))
        self.gives(True, is_one_way_paper, rash, ("crossing", run))
        self.gives(False, is_one_way_paper, rash, ("crossing", run[:3]))
        self.gives(True, is_one_way_paper, rash, ("crossing", run[:2] * 700))
        self.gives(False, is_nearest_paper, rash, (run, nearest_paper(rash)[1]))
        # A longer run is refused although numbers up to its length would be kept.
        self.gives(False, is_nearest_paper, rash, (run, {view: 0 for view in dict(view_numbers(rash))}))

    def test_nearest_papers(self):
        for network, start in STARTS:
            paper = nearest_paper(network, start=start)
            self.gives(paper, nearest_paper, network, start=start)
            if paper is None:
                self.assertIn((network, start), ONE_WAY)
                for run in ((), (("a", 0),)):
                    self.gives(False, is_nearest_paper, network, (run, {}), start=start)
                continue
            first = plain.start_of(network, start)
            self.same(list(paper[1]), sorted(paper[1]))
            self.gives(True, is_nearest_paper, network, paper, start=start)
            self.assertTrue(plain.nearest_paper(network, paper, first))
            self.assertEqual(len(paper[0]), len(crossing_run(network, start=start)))
            backwards = dict(list(paper[1].items())[::-1])
            self.gives(True, is_nearest_paper, network, (paper[0], backwards), start=start)
            # All least numbers, or just those below the length of the run, or something between.
            whole = plain.views(network, first)
            self.gives(True, is_nearest_paper, network, (paper[0], whole), start=start)

    def test_changed_numbers(self):
        seen = {True: 0, False: 0}
        for seed, (network, start) in enumerate(CROSSING):
            first = plain.start_of(network, start)
            paper = nearest_paper(network, start=start)
            rng = random.Random(seed)
            for _ in range(30):
                numbers = dict(rng.choice((paper[1], plain.views(network, first))))
                for _ in range(rng.randint(1, 2)):
                    if not numbers:
                        break
                    view = rng.choice(sorted(numbers))
                    old = plain.views(network, first)[view]
                    numbers[view] = rng.choice((0, old - 1, old + 1, True, None, 10 ** 39, "0"))
                    if rng.random() < 0.3:
                        del numbers[view]
                value = (paper[0], numbers)
                wanted = plain.nearest_paper(network, value, first)
                seen[wanted] += 1
                self.gives(wanted, is_nearest_paper, network, value, start=start)
        self.assertGreater(min(seen.values()), 100)

    def test_lower_numbers_of_views_that_no_path_leads_to(self):
        paper = nearest_paper(MEET)
        odd = ((1, 1), (("p", "z", 0),))
        self.gives(True, is_nearest_paper, MEET, (paper[0], {**paper[1], odd: 0}))
        self.gives(True, is_nearest_paper, MEET, (paper[0], {**paper[1], odd: 99}))
        self.gives(False, is_nearest_paper, MEET, (paper[0], {**paper[1], odd: -1}))
        self.gives(False, is_nearest_paper, MEET, (paper[0], {**paper[1], odd: True}))
        # This one is exposed, so 0 is too little.
        odd = ((1, 0), (("p", "z", 0),))
        self.gives(False, is_nearest_paper, MEET, (paper[0], {**paper[1], odd: 0}))
        self.gives(True, is_nearest_paper, MEET, (paper[0], {**paper[1], odd: 1}))
        self.gives(False, is_nearest_paper, MEET, (paper[0], {**paper[1], ((0, 0), (("p", "x", 1),)): 5}))
        self.gives(False, is_nearest_paper, MEET, (paper[0], {**paper[1], ((1, True), ((),)): 5}))

    def test_spoiled_nearest_papers(self):
        for network, start in ((MEET, None), (TALKERS, LETTERS)):
            first = plain.start_of(network, start)
            paper = nearest_paper(network, start=start)
            for value in list(spoiled(paper, FEW[:14])) + list(ALL):
                wanted = plain.nearest_paper(network, value, first)
                self.gives(wanted, is_nearest_paper, network, value, start=start)
            for run in spoiled(paper[0], FEW):
                wanted = plain.nearest_paper(network, (run, paper[1]), first)
                self.gives(wanted, is_nearest_paper, network, (run, paper[1]), start=start)
            for view in list(paper[1]):
                for key in spoiled(view, (True, False, 0, 1, "p", "u", (), ("u",))):
                    if "[" in repr(key) or "{" in repr(key):
                        continue
                    numbers = {**{other: paper[1][other] for other in paper[1] if other != view}, key: paper[1][view]}
                    wanted = plain.nearest_paper(network, (paper[0], numbers), first)
                    self.gives(wanted, is_nearest_paper, network, (paper[0], numbers), start=start)


class Errors(Case):
    def test_networks_and_starts(self):
        calls = [(function, ()) for function in SEARCHES + (view_numbers,)]
        calls += [(function, (None,)) for function in JUDGES]
        for function, rest in calls:
            for value in unlike(spec.network):
                self.fails(InvalidNetwork, function, value, *rest, start=0)
            for value in unlike(lambda part: part is None or spec.configuration(WIDE, part)):
                self.fails(InvalidConfiguration, function, WIDE, *rest, start=value)

    def test_exposed_views_are_exposed(self):
        for network, start in CROSSING[:20]:
            run = crossing_run(network, start=start)
            found = [view for view, number in view_numbers(network, start=start)
                     if number == len(run) - 1 and is_exposed(network, view)]
            self.assertTrue(found)

    def test_first_configuration_is_no_start(self):
        for network in (CALL, MEET, FLOW):
            first = first_configuration(network)
            self.gives(one_way_paper(network), one_way_paper, network, start=first)
            self.gives(nearest_paper(network), nearest_paper, network, start=first)


if __name__ == "__main__":
    unittest.main()
