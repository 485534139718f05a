"""[5.1] to [5.3] and the functions of halflink.views.views."""

import random
import unittest

from halflink.errors import Crossed, InvalidConfiguration, InvalidNetwork, InvalidPath, InvalidView, TooMany
from halflink.machines.machines import make_machine
from halflink.networks.configurations import configuration_with, first_configuration
from halflink.networks.networks import make_network
from halflink.runs.runs import after_run, first_crossing, is_run
from halflink.views import views
from halflink.views.views import (
    after_path, first_view, is_exposed, is_path, is_view, possible_acts, run_of_path, view_after, weight_of,
)
from tests import spec
from tests.case import Case
from tests.samples import CALL, FLOW, LONELY, MEET, NETWORKS, NONE, TALKERS, WIDE, random_network, random_start
from tests.test_runs import BOTH, WAITING
from tests.wrong import ALL, FEW, spoiled, unlike

GOING = configuration_with(CALL, {("a", "b"): ("go",)}, a=1)
TOLD = (("hand", "a", 0, "b", 0), ("post", "b", 1))
TWENTY = configuration_with(FLOW, {("c", "d"): ("x",) * 20})
LETTERS = configuration_with(TALKERS, {("u", "v"): ("x", "y", "z")})
BACK = configuration_with(TALKERS, {("v", "u"): ("y", "y")}, v=1)
ALL_WIDE = configuration_with(
    WIDE, {("west", "mid"): ("go", "go"), ("east", "mid"): ("ok", "no"), ("left", "right"): ("x",) * 3}, mid=2, east=1)

STARTS = [(network, None) for network in NETWORKS] + [
    (CALL, GOING), (TALKERS, LETTERS), (TALKERS, BACK), (TALKERS, WAITING), (WIDE, ALL_WIDE),
    (FLOW, configuration_with(FLOW, {("d", "c"): ("z",)})), (FLOW, TWENTY),
    (MEET, configuration_with(MEET, {("p", "q"): ("x", "x")})),
] + [(random_network(seed), None) for seed in range(10)] + [
    (random_network(seed), random_start(seed, random_network(seed), crossed=False)) for seed in range(40)
]

# The same letter goes to both neighbours, and comes from both.
SPREAD = make_network(
    ("mid", "one"), ("mid", "two"),
    mid=make_machine(2, (0, ("send", "one", "x"), 1), (0, ("send", "two", "x"), 0), (1, ("take", "one", "x"), 0),
                     (1, ("take", "two", "x"), 1)),
    one=make_machine(2, (0, ("take", "mid", "x"), 1), (1, ("send", "mid", "x"), 0)),
    two=make_machine(2, (0, ("take", "mid", "x"), 0), (0, ("send", "mid", "x"), 0)),
)

WITH_START = (is_view, is_path, view_after, after_path, run_of_path, weight_of, possible_acts)


def near(network, start, depth, most=60):
    """The paths with at most so many acts, with the views behind them; not more than so many of each length."""
    level = found = [((), spec.first_view(network, start))]
    for _ in range(depth):
        level = [(path + (act,), behind) for path, view in level
                 for act, behind in sorted(spec.acts(network, start, view).items())]
        random.Random(len(level)).shuffle(level)
        level = level[:most]
        found = found + level
    return found


class FirstView(Case):
    def test_constant(self):
        self.same(views.MAX_START, 20)

    def test_document(self):
        self.same([first_view(CALL), first_view(CALL, start=GOING), is_view(CALL, ((1, 1), (("b", "no", 0),)))],
                  [((0, 0), ((),)), ((1, 0), (("a", "go", 1),)), True])

    def test_without_letters(self):
        self.gives(((0,), ()), first_view, LONELY)
        self.gives(((0,) * 6, ((), (), ())), first_view, WIDE)
        self.gives(((1, 0), ((),)), first_view, CALL, start=((1, 0), ((), ())))

    def test_letters(self):
        self.gives(((0, 0), (("u", "x", 3),)), first_view, TALKERS, start=LETTERS)
        self.gives(((0, 1), (("v", "y", 2),)), first_view, TALKERS, start=BACK)
        self.gives(((1, 0, 2, 0, 0, 0), (("east", "ok", 2), ("left", "x", 3), ("west", "go", 2))),
                   first_view, WIDE, start=ALL_WIDE)
        self.gives(((0, 0), (("c", "x", 20),)), first_view, FLOW, start=TWENTY)

    def test_all(self):
        for network, start in STARTS:
            self.gives(spec.first_view(network, start or spec.first(network)), first_view, network, start=start)


class Starts(Case):
    def test_twenty_and_more_letters(self):
        for many in (21, 22, 1000):
            for channel in (("c", "d"), ("d", "c")):
                start = configuration_with(FLOW, {channel: ("x",) * many})
                self.fails((TooMany, 20), first_view, FLOW, start=start)
                for function in WITH_START:
                    self.fails((TooMany, 20), function, FLOW, None, start=start)
        self.gives(True, is_path, FLOW, (("take", "d", 1),) * 20, start=TWENTY)
        self.gives(False, is_path, FLOW, (("take", "d", 1),) * 21, start=TWENTY)
        # Many letters altogether, but not in one queue.
        start = configuration_with(WIDE, {("west", "mid"): ("go",) * 20, ("east", "mid"): ("ok",) * 20})
        self.gives(((0,) * 6, (("east", "ok", 20), (), ("west", "go", 20))), first_view, WIDE, start=start)

    def test_crossed(self):
        self.fails((Crossed, ()), first_view, TALKERS, start=BOTH)
        for function in WITH_START:
            self.fails((Crossed, ()), function, TALKERS, None, start=BOTH)
            self.fails((Crossed, ()), function, TALKERS, (), start=BOTH)

    def test_too_many_comes_before_crossed(self):
        start = configuration_with(TALKERS, {("u", "v"): ("x",), ("v", "u"): ("x",) * 21})
        self.fails((TooMany, 20), first_view, TALKERS, start=start)
        start = configuration_with(TALKERS, {("u", "v"): ("x",) * 20, ("v", "u"): ("x",) * 20})
        self.fails((Crossed, ()), first_view, TALKERS, start=start)
        # The queue with too many letters is that of another link.
        start = configuration_with(WIDE, {("left", "right"): ("x",) * 21, ("mid", "west"): ("x",),
                                          ("west", "mid"): ("x",)})
        for function in WITH_START:
            self.fails((TooMany, 20), function, WIDE, None, start=start)

    def test_wrong_starts_come_before_views_and_paths(self):
        for value in ALL + tuple(spoiled(GOING)):
            if value is not None and not spec.configuration(CALL, value):
                self.fails(InvalidConfiguration, first_view, CALL, start=value)
                for function in WITH_START:
                    self.fails(InvalidConfiguration, function, CALL, None, start=value)

    def test_wrong_networks_come_first(self):
        for value in unlike(spec.network):
            self.fails(InvalidNetwork, first_view, value, start=0)
            self.fails(InvalidNetwork, is_exposed, value, None)
            for function in WITH_START:
                self.fails(InvalidNetwork, function, value, None, start=0)


class IsView(Case):
    def test_left(self):
        for hold, wanted in (
            ((), True), (("u", "x", 3), True), (("u", "y", 2), True), (("u", "z", 1), True), (("u", "x", 0), True),
            (("u", "abcdefgh", 0), True), (("v", "q", 0), True), (("u", "y", 3), False), (("u", "x", 2), False),
            (("u", "x", 1), False), (("u", "x", 4), False), (("v", "x", 3), False), (("v", "z", 1), False),
            (("u", "x", -1), False), (("u", "x", True), False), (("u", "z", True), False), (("u", "z", False), False),
            (("u", "x", None), False), (("u", "x"), False), (("u", "x", 0, 0), False), (["u", "x", 0], False),
            (("w", "x", 0), False), (("", "x", 0), False), (("u", "", 0), False), (("u", "X", 0), False),
            (("u", "abcdefghi", 0), False), ((None, "x", 0), False), ([], False), (None, False), ({}, False),
            (0, False), ("", False), (("u",), False), (("u", None, 0), False), (("u", "x", 21), False),
        ):
            self.gives(wanted, is_view, TALKERS, ((0, 0), (hold,)), start=LETTERS)
            self.gives(wanted, is_view, TALKERS, ((1, 1), (hold,)), start=LETTERS)

    def test_any_states(self):
        for network, start in STARTS[:12]:
            for at, (_, machine) in enumerate(network[0]):
                states, holds = first_view(network, start=start)
                for state in range(-1, machine[0] + 2):
                    value = (states[:at] + (state,) + states[at + 1:], holds)
                    self.gives(0 <= state < machine[0], is_view, network, value, start=start)

    def test_every_value(self):
        for network, start in STARTS[:16]:
            first = start or spec.first(network)
            for value in ALL:
                self.gives(spec.view(network, first, value), is_view, network, value, start=start)

    def test_every_spoiled_part(self):
        right = 0
        for network, start in STARTS[5:30]:
            first = start or spec.first(network)
            for _, view in near(network, first, 2, 3):
                for value in spoiled(view, FEW + (2, "x", "y", ("u", "x", 0), ("u", "x", 1))):
                    wanted = spec.view(network, first, value)
                    self.gives(wanted, is_view, network, value, start=start)
                    right += wanted
                    if not wanted:
                        self.fails(InvalidView, possible_acts, network, value, start=start)
        self.assertGreater(right, 300)

    def test_no_path_needs_to_lead_there(self):
        self.gives(True, is_view, CALL, ((1, 1), (("b", "no", 0),)))
        self.gives(True, is_view, FLOW, ((0, 0), (("d", "never", 0),)))
        self.gives(False, is_view, FLOW, ((0, 0), (("d", "never", 1),)))


class PossibleActs(Case):
    def test_document(self):
        self.gives([(("hand", "a", 0, "b", 0), ((1, 1), ((),))), (("post", "a", 0), ((1, 0), (("a", "go", 0),)))],
                   possible_acts, CALL, first_view(CALL))
        self.gives([(("take", "b", 0), ((1, 1), ((),)))], possible_acts, CALL, first_view(CALL, start=GOING),
                   start=GOING)
        self.same(is_exposed(MEET, ((1, 0), (("p", "x", 0),))), True)

    def test_takes(self):
        seen = ((0, 0), (("u", "x", 3),))
        self.same(dict(possible_acts(TALKERS, seen, start=LETTERS))["take", "v", 1], ((0, 0), (("u", "y", 2),)))
        self.same(dict(possible_acts(TALKERS, ((0, 1), (("u", "y", 2),)), start=LETTERS))["take", "v", 3],
                  ((0, 1), (("u", "z", 1),)))
        one = configuration_with(TALKERS, {("u", "v"): ("z", "x")})
        self.same(dict(possible_acts(TALKERS, ((0, 0), (("u", "x", 1),)), start=one))["take", "v", 1], ((0, 0), ((),)))

    def test_nothing_is_taken_with_left_0(self):
        # The letter of the hold could be taken, but left is 0.
        self.gives([(("post", "a", 0), ((1, 0), (("a", "go", 0),)))], possible_acts, CALL,
                   ((0, 0), (("a", "go", 0),)))
        self.gives([], possible_acts, CALL, ((1, 0), (("a", "go", 0),)))

    def test_posts(self):
        # Behind a post, left is 0, and the letter of the hold stays.
        found = dict(possible_acts(TALKERS, ((0, 0), (("u", "y", 2),)), start=LETTERS))
        self.same(found["post", "u", 0], ((1, 0), (("u", "y", 0),)))
        self.same(("post", "v", 0) in found, False)
        self.same(dict(possible_acts(TALKERS, ((0, 0), ((),)), start=LETTERS))["post", "u", 0],
                  ((1, 0), (("u", "x", 0),)))
        self.same(dict(possible_acts(TALKERS, ((1, 0), (("u", "q", 0),))))["post", "u", 2], ((0, 0), (("u", "q", 0),)))
        self.same(dict(possible_acts(TALKERS, ((0, 0), (("v", "q", 0),))))["post", "v", 0], ((0, 1), (("v", "q", 0),)))
        self.same(("post", "u", 0) in dict(possible_acts(TALKERS, ((0, 0), (("v", "q", 0),)))), False)

    def test_hands_need_a_free_link(self):
        self.same([act for act, _ in possible_acts(TALKERS, ((0, 0), ((),)))],
                  [("hand", "u", 0, "v", 1), ("hand", "v", 0, "u", 1), ("post", "u", 0), ("post", "v", 0)])
        for hold in (("u", "x", 0), ("v", "x", 0)):
            acts = [act for act, _ in possible_acts(TALKERS, ((0, 0), (hold,)))]
            self.same([act for act in acts if act[0] == "hand"], [])

    def test_hands(self):
        several = make_network(
            ("a", "b"),
            a=make_machine(3, (0, ("send", "b", "x"), 1), (0, ("send", "b", "x"), 2), (0, ("send", "b", "y"), 1)),
            b=make_machine(3, (0, ("take", "a", "x"), 1), (0, ("take", "a", "x"), 2), (1, ("take", "a", "y"), 0)),
        )
        found = dict(possible_acts(several, first_view(several)))
        self.same([act for act in found if act[0] == "hand"],
                  [("hand", "a", 0, "b", 0), ("hand", "a", 0, "b", 1), ("hand", "a", 1, "b", 0),
                   ("hand", "a", 1, "b", 1)])
        self.same(found["hand", "a", 1, "b", 0], ((2, 1), ((),)))
        self.same(found["hand", "a", 0, "b", 1], ((1, 2), ((),)))

    def test_only_the_links_of_the_deed(self):
        held = ("mid", "ok", 0)
        self.gives([
            (("hand", "left", 0, "right", 0), ((1, 0, 0, 0, 1, 1), ((), (), held))),
            (("post", "east", 1), ((2, 0, 0, 0, 1, 1), (("east", "no", 0), (), held))),
            (("post", "east", 2), ((0, 0, 0, 0, 1, 1), (("east", "ok", 0), (), held))),
            (("post", "left", 0), ((1, 0, 0, 0, 1, 1), ((), ("left", "x", 0), held))),
            (("step", "west", 1), ((1, 0, 0, 0, 1, 1), ((), (), held))),
        ], possible_acts, WIDE, ((1, 0, 0, 0, 1, 1), ((), (), held)))

    def test_all(self):
        for network, start in STARTS:
            first = start or spec.first(network)
            for _, view in near(network, first, 4, 12):
                wanted = sorted(spec.acts(network, first, view).items())
                self.gives(wanted, possible_acts, network, view, start=start)
                self.gives(spec.exposed(network, view), is_exposed, network, view)

    def test_any_view(self):
        for network, start in STARTS[:7]:
            first = start or spec.first(network)
            rng = random.Random(3)
            for _ in range(40):
                states = tuple(rng.randrange(machine[0]) for _, machine in network[0])
                holds = tuple(rng.choice(((), (rng.choice(link), rng.choice("xy"), 0))) for link in network[1])
                wanted = sorted(spec.acts(network, first, (states, holds)).items())
                self.gives(wanted, possible_acts, network, (states, holds), start=start)

    def test_wrong_views(self):
        for value in ALL:
            if not spec.view(CALL, spec.first(CALL), value):
                self.fails(InvalidView, possible_acts, CALL, value)
            if not spec.view(CALL, GOING, value):
                self.fails(InvalidView, possible_acts, CALL, value, start=GOING)
        self.fails(InvalidView, possible_acts, CALL, first_view(CALL, start=GOING))
        self.fails(InvalidView, possible_acts, CALL, None)


class IsExposed(Case):
    def test_exposed(self):
        for states, hold, wanted in (
            ((0, 0), (), False), ((1, 0), ("p", "x", 0), True), ((1, 1), ("p", "x", 0), False),
            ((0, 1), ("q", "y", 0), True), ((1, 1), ("q", "y", 0), False), ((1, 0), ("q", "y", 0), False),
            ((0, 1), ("p", "any", 20), False), ((0, 0), ("p", "x", 5), True),
        ):
            self.gives(wanted, is_exposed, MEET, (states, (hold,)))

    def test_the_holder_and_others_may_send(self):
        # mid can send to east; that does not matter for the link to west.
        self.gives(False, is_exposed, WIDE, ((0, 0, 1, 0, 0, 0), ((), (), ("west", "go", 0))))
        self.gives(True, is_exposed, WIDE, ((0, 0, 1, 0, 0, 0), (("east", "ok", 0), (), ())))
        self.gives(True, is_exposed, WIDE, ((0, 0, 3, 0, 0, 0), ((), (), ("west", "go", 0))))
        self.gives(False, is_exposed, WIDE, ((0, 0, 3, 0, 0, 0), (("east", "ok", 0), (), ())))
        self.gives(True, is_exposed, WIDE, ((0, 0, 0, 0, 0, 0), ((), ("right", "x", 0), ())))
        self.gives(False, is_exposed, WIDE, ((0, 0, 0, 0, 0, 0), ((), ("left", "x", 0), ())))

    def test_left_up_to_twenty(self):
        for left in range(21):
            self.gives(True, is_exposed, MEET, ((1, 0), (("p", "whatever", left),)))
        for left in (21, -1, True, False, None, "0", 10 ** 39):
            self.fails(InvalidView, is_exposed, MEET, ((1, 0), (("p", "whatever", left),)))

    def test_wrong_views(self):
        for network, view in ((MEET, ((1, 0), (("p", "x", 0),))), (LONELY, ((0,), ())), (CALL, ((1, 1), ((),)))):
            for value in list(ALL) + list(spoiled(view)):
                if spec.loose_view(network, value):
                    self.gives(spec.exposed(network, value), is_exposed, network, value)
                else:
                    self.fails(InvalidView, is_exposed, network, value)


class Paths(Case):
    def test_document(self):
        self.same([view_after(CALL, TOLD), after_path(CALL, TOLD), is_path(CALL, TOLD[1:])],
                  [((1, 0), (("b", "ok", 0),)), ((1, 0), ((), ("ok",))), False])
        self.same([run_of_path(CALL, TOLD), weight_of(CALL, TOLD)], [(("a", 0), ("b", 0), ("b", 1)), 3])

    def test_no_acts(self):
        for network, start in STARTS:
            first = start or spec.first(network)
            self.gives(True, is_path, network, (), start=start)
            self.gives(spec.first_view(network, first), view_after, network, (), start=start)
            self.gives(first, after_path, network, (), start=start)
            self.gives((), run_of_path, network, (), start=start)
            self.gives(0, weight_of, network, (), start=start)

    def test_all(self):
        for network, start in STARTS:
            first = start or spec.first(network)
            for path, view in near(network, first, 5, 8):
                run = spec.path_run(path)
                self.gives(True, is_path, network, path, start=start)
                self.gives(view, view_after, network, path, start=start)
                self.gives(run, run_of_path, network, path, start=start)
                self.gives(len(run), weight_of, network, path, start=start)
                self.assertTrue(is_run(network, run, start=start))
                self.assertIsNone(first_crossing(network, run, start=start))
                conf = spec.configurations(network, run, first)[-1]
                self.gives(conf, after_path, network, path, start=start)
                self.assertEqual(conf[0], view[0])

    def test_weights(self):
        self.gives(4, weight_of, CALL, (("hand", "a", 0, "b", 0), ("hand", "b", 1, "a", 1)))
        self.gives(1, weight_of, CALL, (("take", "b", 0),), start=GOING)
        self.gives(1, weight_of, FLOW, (("step", "d", 0),))
        self.gives(1, weight_of, FLOW, (("post", "c", 0),))
        self.gives(7, weight_of, FLOW, (("hand", "c", 0, "d", 1), ("step", "d", 0), ("post", "c", 0)) + (
            ("post", "c", 0),) * 3)

    def test_letters_of_the_start(self):
        path = (("take", "v", 1), ("post", "u", 0), ("post", "u", 2))
        self.gives(((0, 0), (("u", "y", 0),)), view_after, TALKERS, path, start=LETTERS)
        self.gives(((0, 0), (("y", "z", "x", "y"), ())), after_path, TALKERS, path, start=LETTERS)
        self.gives((("v", 1), ("u", 0), ("u", 2)), run_of_path, TALKERS, path, start=LETTERS)
        # The letters that were there before a post are not taken behind it.
        self.gives(False, is_path, TALKERS, path[1:] + path[:1], start=LETTERS)
        self.fails((InvalidPath, 2), view_after, TALKERS, path[1:] + path[:1], start=LETTERS)
        self.gives(True, is_run, TALKERS, (("u", 0), ("u", 2), ("v", 1)), start=LETTERS)

    def wrong(self, network, path, start):
        first = start or spec.first(network)
        fault = spec.path_fault(network, path, first)
        self.gives(fault is None, is_path, network, path, start=start)
        if fault is not None:
            for function in (view_after, after_path, run_of_path, weight_of):
                self.fails((InvalidPath, fault), function, network, path, start=start)

    def test_every_value(self):
        for network, start in STARTS[:12]:
            for value in ALL:
                self.wrong(network, value, start)
        for value in (list(TOLD), dict.fromkeys(TOLD), {0: TOLD[0]}, [], {}, "", 0, None, True):
            self.gives(False, is_path, CALL, value)
            self.fails((InvalidPath, 0), view_after, CALL, value)

    def test_every_spoiled_part(self):
        for value in spoiled(TOLD, FEW + ("b", "hand", "post", "take", 2)):
            self.wrong(CALL, value, None)
        for value in spoiled((("take", "b", 0), ("post", "b", 1)), FEW + ("a", "step", "hand")):
            self.wrong(CALL, value, GOING)
        for value in spoiled((("hand", "c", 0, "d", 1), ("step", "d", 0), ("post", "c", 0))):
            self.wrong(FLOW, value, None)

    def test_every_act_in_every_view(self):
        for network, start in ((CALL, None), (CALL, GOING), (TALKERS, None), (TALKERS, LETTERS), (TALKERS, BACK),
                               (SPREAD, None)):
            first = start or spec.first(network)
            names = [name for name, _ in network[0]]
            acts = [(word, name, index) for word in ("step", "take", "post", "hand", "send") for name in names
                    for index in range(5)]
            acts += [(word, one, index, other, number) for word in ("hand", "post", "take") for one in names
                     for other in names for index in range(4) for number in range(4)]
            for path, view in near(network, first, 3, 6):
                possible = spec.acts(network, first, view)
                for act in acts:
                    if act in possible:
                        self.gives(possible[act], view_after, network, path + (act,), start=start)
                    else:
                        self.gives(False, is_path, network, path + (act,), start=start)
                        self.fails((InvalidPath, len(path)), view_after, network, path + (act, None), start=start)

    def test_booleans_are_no_indices(self):
        for act in (("hand", "a", False, "b", 0), ("hand", "a", 0, "b", False), ("post", "a", False)):
            self.wrong(CALL, (act,), None)
        self.wrong(FLOW, (("step", "d", False),), None)
        self.wrong(CALL, (("take", "b", False),), GOING)
        self.wrong(CALL, (["hand", "a", 0, "b", 0],), None)
        self.wrong(CALL, (("hand", "a", -1, "b", 0),), None)
        self.wrong(CALL, (("post", "a", -2),), None)

    def test_deeds_have_their_own_acts(self):
        self.wrong(FLOW, (("take", "d", 0),), None)
        self.wrong(FLOW, (("post", "d", 0),), None)
        self.wrong(FLOW, (("step", "c", 0),), None)
        self.wrong(FLOW, (("step", "d", 1),), TWENTY)
        self.wrong(FLOW, (("take", "c", 0),), TWENTY)
        self.wrong(FLOW, (("hand", "c", 0, "d", 0),), None)
        self.wrong(FLOW, (("hand", "d", 1, "c", 0),), None)
        self.wrong(FLOW, (("hand", "c", 0, "c", 0),), None)

    def test_where_a_path_ends(self):
        path = (("hand", "a", 0, "b", 0), ("hand", "b", 1, "a", 1)) * 3
        for at in range(7):
            for act in (None, ("hand", "a", 7, "b", 0), ["hand"], (), ("step", "a", 0)):
                self.fails((InvalidPath, at), weight_of, CALL, path[:at] + (act,) + path[at:])

    def test_long(self):
        path = (("hand", "a", 0, "b", 0), ("hand", "b", 1, "a", 1)) * 1000
        self.gives(4000, weight_of, CALL, path)
        self.gives(first_view(CALL), view_after, CALL, path)
        self.gives(first_configuration(CALL), after_path, CALL, path)
        self.gives(((0, 0), (("x",) * 3000, ())), after_path, FLOW, (("post", "c", 0),) * 3000)

    def test_other_trees(self):
        path = (("hand", "left", 0, "right", 0), ("take", "mid", 3), ("take", "mid", 0), ("step", "zero", 0))
        self.wrong(WIDE, path, ALL_WIDE)
        path = (("hand", "left", 0, "right", 0),)
        self.wrong(WIDE, path, ALL_WIDE)
        path = (("take", "right", 0), ("take", "mid", 3), ("step", "zero", 0), ("take", "right", 0))
        self.gives(((1, 0, 3, 0, 0, 1), (("east", "no", 1), ("left", "x", 1), ("west", "go", 2))),
                   view_after, WIDE, path, start=ALL_WIDE)
        self.gives(after_run(WIDE, (("right", 0), ("mid", 3), ("zero", 0), ("right", 0)), start=ALL_WIDE),
                   after_path, WIDE, path, start=ALL_WIDE)

    def test_single_machines(self):
        alone = make_network(a=NONE)
        self.gives([], possible_acts, alone, ((0,), ()))
        self.gives(False, is_exposed, alone, ((0,), ()))
        self.gives(False, is_path, alone, (("step", "a", 0),))


if __name__ == "__main__":
    unittest.main()
