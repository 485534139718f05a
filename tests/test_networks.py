"""[2.1], [2.2] and the functions of halflink.networks.networks."""

import random
import unittest
from itertools import permutations

from halflink.errors import InvalidMachine, InvalidNetwork, InvalidOperation, UnknownName
from halflink.machines.machines import make_machine, renamed_machine
from halflink.networks import networks
from halflink.networks.networks import (
    channels_of, is_network, linked_to, machine_names, machine_of, make_network, network_from, renamed_network,
    renamed_network_by, trees_of, way_between, with_link, with_machine, without_link, without_machine,
)
from tests import spec
from tests.case import Case
from tests.samples import A, ALONE, B, CALL, D, EAST, FLOW, LEFT, LONELY, MEET, MID, NETWORKS, NONE, RIGHT, WEST, WIDE
from tests.samples import random_network
from tests.wrong import ALL, FEW, six_machines, spoiled, unlike

SIX = six_machines()
NAMES = ("aa", "bb", "cc", "dd", "ee", "ff")
TALK = make_machine(1, (0, ("send", "b", "x"), 0))


def free(*names):
    return tuple((name, NONE) for name in sorted(names))


class IsNetwork(Case):
    def test_document(self):
        self.same([CALL == network_from({"b": B, "a": A}, (("b", "a"),)), is_network((CALL[0], ())), CALL[1]],
                  [True, False, (("a", "b"),)])

    def test_networks(self):
        for value in NETWORKS + (SIX, ((("a", NONE),), ()), (free("a", "b"), ()), (free("a", "b"), (("a", "b"),))):
            self.gives(True, is_network, value)

    def test_how_many_machines(self):
        for many in range(8):
            self.gives(1 <= many <= 6, is_network, (free(*"abcdefg"[:many]), ()))

    def test_names(self):
        for name in ("a", "abcdefgh", "network", "machines", "links"):
            self.gives(True, is_network, (((name, NONE),), ()))
        for name in unlike(spec.name):
            self.gives(False, is_network, (((name, NONE),), ()))
        for pairs in ((("b", NONE), ("a", NONE)), (("a", NONE), ("a", NONE)), (("a", NONE), ("a", D)),
                      (("a", NONE), ("b", NONE), ("b", ALONE)), [("a", NONE)], (["a", NONE],), (("a",),),
                      (("a", NONE, NONE),), ("a", NONE), {"a": NONE}, None, (("a", None),), (("a", CALL),)):
            self.gives(False, is_network, (pairs, ()))

    def test_links(self):
        three = free("a", "b", "c")
        for links in ((), (("a", "b"),), (("a", "b"), ("a", "c")), (("a", "b"), ("b", "c")), (("a", "c"), ("b", "c"))):
            self.gives(True, is_network, (three, links))
        for links in ((("b", "a"),), (("a", "a"),), (("a", "b"), ("a", "b")), (("a", "c"), ("a", "b")), (("a", "d"),),
                      (("a", "b"), ("b", "a")), [("a", "b")], (["a", "b"],), (("a", "b", "c"),), (("a",),), ("ab",),
                      (None,), None, {}, {("a", "b"): True}, (("a", 0),), (("a", None),), ((None, None),), ((),), 0):
            self.gives(False, is_network, (three, links))

    def test_circles(self):
        self.gives(False, is_network, (free("a", "b", "c"), (("a", "b"), ("a", "c"), ("b", "c"))))
        ring = tuple(zip(NAMES, NAMES[1:])) + (("aa", "ff"),)
        self.gives(False, is_network, (free(*NAMES), tuple(sorted(ring))))
        for left_out in range(6):
            links = tuple(sorted(ring[:left_out] + ring[left_out + 1:]))
            self.gives(True, is_network, (free(*NAMES), links))
        # A circle beside a machine that is linked to nothing: no more links than a tree has.
        self.gives(False, is_network, (free("a", "b", "c", "d"), (("a", "b"), ("a", "c"), ("b", "c"))))
        self.gives(False, is_network, (free("a", "b", "c", "d", "e"), (("a", "b"), ("c", "d"), ("c", "e"), ("d", "e"))))

    def test_neighbours_are_linked(self):
        self.gives(False, is_network, ((("a", A), ("b", NONE)), ()))
        self.gives(True, is_network, ((("a", A), ("b", NONE)), (("a", "b"),)))
        self.gives(True, is_network, ((("b", NONE), ("c", TALK)), (("b", "c"),)))
        self.gives(False, is_network, ((("b", NONE), ("c", TALK)), ()))
        self.gives(False, is_network, ((("a", NONE), ("b", NONE), ("c", TALK)), (("a", "b"), ("a", "c"))))
        self.gives(False, is_network, ((("c", TALK),), ()))
        self.gives(False, is_network, ((("b", TALK),), ()))
        never = make_machine(2, (1, ("take", "b", "x"), 1))
        self.gives(False, is_network, ((("a", never), ("b", NONE)), ()))
        self.gives(False, is_network, ((("mid", MID), ("west", NONE)), (("mid", "west"),)))

    def test_all_sets_of_links_of_four(self):
        pairs = [(one, other) for one in "abcd" for other in "abcd" if one < other]
        for chosen in range(2 ** len(pairs)):
            links = tuple(pair for at, pair in enumerate(pairs) if chosen >> at & 1)
            value = (free(*"abcd"), links)
            self.gives(spec.network(value), is_network, value)

    def test_every_value(self):
        for value in ALL:
            self.gives(spec.network(value), is_network, value)

    def test_every_spoiled_part(self):
        right = 0
        small = (free("a", "b", "c", "d"), (("a", "b"), ("b", "c")))
        for value in (CALL, MEET, LONELY, small):
            for part in spoiled(value):
                self.gives(spec.network(part), is_network, part)
                right += spec.network(part)
        self.assertGreater(right, 50)


class MakeNetwork(Case):
    def test_constant(self):
        self.same(networks.MAX_MACHINES, 6)

    def test_plain(self):
        self.gives(((("a", NONE),), ()), make_network, a=NONE)
        self.gives(((("a", A), ("b", B)), (("a", "b"),)), make_network, ("a", "b"), b=B, a=A)
        self.gives(((("a", A), ("b", B)), (("a", "b"),)), network_from, {"b": B, "a": A}, (("a", "b"),))
        self.gives((free("a", "b"), ()), network_from, {"b": NONE, "a": NONE}, ())

    def test_links_turned_about_and_repeated(self):
        links = (("west", "mid"), ("mid", "west"), ("east", "mid"), ("west", "mid"), ("mid", "east"))
        machines = {"west": WEST, "mid": MID, "east": EAST}
        wanted = ((("east", EAST), ("mid", MID), ("west", WEST)), (("east", "mid"), ("mid", "west")))
        self.gives(wanted, network_from, machines, links)
        self.gives(wanted, make_network, *links, **machines)
        for order in permutations(links):
            self.assertEqual(network_from(machines, order), wanted)
        self.gives(CALL, make_network, ("b", "a"), ("a", "b"), ("b", "a"), a=A, b=B)

    def test_any_order_of_machines(self):
        for order in permutations(("east", "mid", "west")):
            found = {name: {"west": WEST, "mid": MID, "east": EAST}[name] for name in order}
            self.assertEqual(machine_names(network_from(found, (("east", "mid"), ("mid", "west")))),
                             ("east", "mid", "west"))

    def test_names_equal_to_a_parameter(self):
        wanted = (free("links", "machines"), (("links", "machines"),))
        self.gives(wanted, network_from, {"links": NONE, "machines": NONE}, (("machines", "links"),))
        self.gives(wanted, make_network, ("links", "machines"), links=NONE, machines=NONE)

    def test_six_and_seven_machines(self):
        self.same(machine_names(SIX), NAMES)
        self.fails(InvalidNetwork, six_machines, gg=NONE)
        seven = {name: NONE for name in NAMES + ("gg",)}
        self.fails(InvalidNetwork, network_from, seven, ())
        self.fails(InvalidNetwork, make_network, **seven)
        self.fails(InvalidNetwork, network_from, {}, ())
        self.fails(InvalidNetwork, make_network)

    def test_names_of_eight_and_nine_letters(self):
        self.gives((free("abcdefgh"), ()), make_network, abcdefgh=NONE)
        self.fails(InvalidNetwork, make_network, abcdefghi=NONE)
        self.fails(InvalidNetwork, network_from, {"abcdefghi": NONE}, ())

    def test_circles_and_missing_links(self):
        three = {"a": NONE, "b": NONE, "c": NONE}
        self.fails(InvalidNetwork, network_from, three, (("a", "b"), ("b", "c"), ("c", "a")))
        self.gives((free("a", "b", "c"), (("a", "b"), ("b", "c"))), network_from, three,
                   (("a", "b"), ("b", "c"), ("b", "a")))
        self.fails(InvalidNetwork, network_from, {"a": A, "b": B}, ())
        self.fails(InvalidNetwork, make_network, a=A, b=B)
        self.fails(InvalidNetwork, make_network, ("a", "a"), a=NONE)
        self.fails(InvalidNetwork, make_network, ("a", "d"), a=NONE)
        self.fails(InvalidNetwork, make_network, ("d", "d"), a=NONE)
        self.fails(InvalidNetwork, make_network, ("a", "b"), a=A)

    def test_wrong_links(self):
        for links in ALL:
            if not (isinstance(links, tuple) and all(link in (("a", "b"), ("b", "a")) for link in links)):
                self.fails(InvalidNetwork, network_from, {"a": NONE, "b": NONE}, links)
        for link in ALL:
            if link not in (("a", "b"), ("b", "a")):
                self.fails(InvalidNetwork, make_network, link, a=NONE, b=NONE)
                self.fails(InvalidNetwork, make_network, ("a", "b"), link, a=NONE, b=NONE)
        self.fails(InvalidNetwork, network_from, {"a": A, "b": B}, [("a", "b")])
        self.fails(InvalidNetwork, network_from, {"a": A, "b": B}, (["a", "b"],))

    def test_wrong_machines(self):
        for machines in ALL:
            fits = isinstance(machines, dict) and machines and all(
                spec.name(key) and spec.machine(machines[key]) and not spec.neighbours(machines[key])
                for key in machines
            )
            if not fits:
                self.fails(InvalidNetwork, network_from, machines, ())
        for machine in unlike(spec.machine):
            self.fails(InvalidNetwork, network_from, {"a": machine}, ())
            self.fails(InvalidNetwork, make_network, a=NONE, b=machine)
        for key in (0, True, None, "", "A", ("a",), "a\n", ("a", "b")):
            self.fails(InvalidNetwork, network_from, {"a": NONE, key: NONE}, ())
            self.fails(InvalidNetwork, network_from, {key: NONE}, ())
        for machine in spoiled(A, FEW):
            if not spec.machine(machine):
                self.fails(InvalidNetwork, make_network, ("a", "b"), a=machine, b=B)


class Parts(Case):
    def test_document(self):
        self.same([machine_names(CALL), machine_of(CALL, "b") == B, channels_of(CALL), linked_to(CALL, "b")],
                  [("a", "b"), True, (("a", "b"), ("b", "a")), ("a",)])
        self.same([trees_of(CALL), way_between(CALL, "b", "a"), way_between(CALL, "a", "a")],
                  [(("a", "b"),), ("b", "a"), ("a",)])

    def test_names(self):
        self.gives(("east", "left", "mid", "right", "west", "zero"), machine_names, WIDE)
        self.gives(("a",), machine_names, LONELY)

    def test_machine_of(self):
        for name, machine in (("west", WEST), ("mid", MID), ("east", EAST), ("left", LEFT), ("right", RIGHT),
                              ("zero", ALONE)):
            self.gives(machine, machine_of, WIDE, name)

    def test_channels(self):
        self.gives((), channels_of, LONELY)
        self.gives((("east", "mid"), ("left", "right"), ("mid", "east"), ("mid", "west"), ("right", "left"),
                    ("west", "mid")), channels_of, WIDE)

    def test_linked(self):
        for name, wanted in (("mid", ("east", "west")), ("west", ("mid",)), ("east", ("mid",)), ("zero", ()),
                             ("left", ("right",))):
            self.gives(wanted, linked_to, WIDE, name)
        self.gives(("bb", "cc"), linked_to, SIX, "aa")
        self.gives((), linked_to, SIX, "ff")

    def test_linked_without_deeds(self):
        self.gives(("a",), linked_to, make_network(("a", "b"), a=NONE, b=NONE), "b")

    def test_trees(self):
        self.gives((("east", "mid", "west"), ("left", "right"), ("zero",)), trees_of, WIDE)
        self.gives((("a",),), trees_of, LONELY)
        self.gives((("aa", "bb", "cc"), ("dd", "ee"), ("ff",)), trees_of, SIX)
        self.gives((("a", "d"), ("b", "c")), trees_of, make_network(("d", "a"), ("c", "b"), a=NONE, b=NONE, c=NONE,
                                                                  d=NONE))

    def test_ways(self):
        self.gives(("west", "mid", "east"), way_between, WIDE, "west", "east")
        self.gives(("east", "mid", "west"), way_between, WIDE, "east", "west")
        self.gives(("mid", "east"), way_between, WIDE, "mid", "east")
        self.gives(None, way_between, WIDE, "mid", "left")
        self.gives(None, way_between, WIDE, "zero", "west")
        self.gives(("zero",), way_between, WIDE, "zero", "zero")
        line = make_network(("f", "a"), ("a", "e"), ("e", "b"), ("b", "d"), ("d", "c"),
                            a=NONE, b=NONE, c=NONE, d=NONE, e=NONE, f=NONE)
        self.gives(("f", "a", "e", "b", "d", "c"), way_between, line, "f", "c")
        self.gives(("d", "b", "e", "a"), way_between, line, "d", "a")
        star = make_network(*[("c", end) for end in "abdef"], a=NONE, b=NONE, c=NONE, d=NONE, e=NONE, f=NONE)
        for one in "abdef":
            for other in "abdef":
                self.gives((one,) if one == other else (one, "c", other), way_between, star, one, other)

    def test_random(self):
        for seed in range(60):
            network = random_network(seed, 6)
            self.assertTrue(spec.network(network))
            names = machine_names(network)
            self.same(trees_of(network), tuple(sorted(tuple(sorted(tree)) for tree in spec.trees(names, network[1]))))
            self.same(channels_of(network), tuple(spec.channels(network)))
            for one in names:
                self.same(linked_to(network, one),
                          tuple(other for other in names if tuple(sorted((one, other))) in network[1]))
                for other in names:
                    way = way_between(network, one, other)
                    together = any(one in tree and other in tree for tree in trees_of(network))
                    self.assertEqual(way is not None, together)
                    if way is not None:
                        self.assertEqual((way[0], way[-1], len(set(way))), (one, other, len(way)))
                        self.assertTrue(all(pair in channels_of(network) for pair in zip(way, way[1:])))

    def test_unknown_names(self):
        for value in unlike(lambda part: part in ("a", "b")) + ["c", "aa", ["a"]]:
            self.fails((UnknownName, value), machine_of, CALL, value)
            self.fails((UnknownName, value), linked_to, CALL, value)
            self.fails((UnknownName, value), way_between, CALL, value, "a")
            self.fails((UnknownName, value), way_between, CALL, "a", value)
            self.fails((UnknownName, value), way_between, CALL, value, "nobody")
            self.fails((UnknownName, value), without_machine, CALL, value)
            self.fails((UnknownName, value), with_link, CALL, value, "nobody")
            self.fails((UnknownName, value), with_link, CALL, "a", value)
            self.fails((UnknownName, value), without_link, CALL, value, "nobody")
            self.fails((UnknownName, value), without_link, CALL, "a", value)


class WithMachine(Case):
    def test_document(self):
        self.same(with_machine(CALL, "e", (1, (), ()))[1], (("a", "b"),))

    def test_added(self):
        self.gives((free("a", "b"), ()), with_machine, LONELY, "b", NONE)
        self.gives(((("a", A), ("aa", ALONE), ("b", B)), (("a", "b"),)), with_machine, CALL, "aa", ALONE)
        self.gives((free("a", "abcdefgh"), ()), with_machine, LONELY, "abcdefgh", NONE)

    def test_replaced(self):
        self.gives(((("a", NONE), ("b", B)), (("a", "b"),)), with_machine, CALL, "a", NONE)
        quiet = make_machine(3, (0, ("take", "b", "ok"), 2))
        self.gives(((("a", quiet), ("b", B)), (("a", "b"),)), with_machine, CALL, "a", quiet)
        self.gives(CALL, with_machine, CALL, "a", A)

    def test_not_a_network(self):
        self.fails(InvalidOperation, with_machine, LONELY, "b", A)
        self.fails(InvalidOperation, with_machine, LONELY, "b", make_machine(1, (0, ("send", "a", "x"), 0)))
        self.fails(InvalidOperation, with_machine, CALL, "a", D)
        self.fails(InvalidOperation, with_machine, SIX, "gg", NONE)
        self.gives(SIX, with_machine, SIX, "ff", NONE)
        five = without_machine(SIX, "ff")
        self.gives(SIX, with_machine, five, "ff", NONE)

    def test_wrong_names(self):
        for value in unlike(spec.name):
            self.fails(InvalidOperation, with_machine, CALL, value, NONE)
        self.fails(InvalidOperation, with_machine, CALL, "abcdefghi", NONE)

    def test_wrong_machines_come_before_wrong_names(self):
        for value in unlike(spec.machine):
            self.fails(InvalidMachine, with_machine, CALL, "e", value)
            self.fails(InvalidMachine, with_machine, CALL, None, value)


class WithoutMachine(Case):
    def test_removed(self):
        self.gives((free("a"), ()), without_machine, make_network(("a", "b"), a=NONE, b=NONE), "b")
        self.gives((free("b"), ()), without_machine, make_network(("a", "b"), a=NONE, b=NONE), "a")
        self.gives(((("a", A), ("b", B)), (("a", "b"),)), without_machine, with_machine(CALL, "c", ALONE), "c")
        self.gives((free("bb", "cc", "dd", "ee", "ff"), (("dd", "ee"),)), without_machine, SIX, "aa")
        self.gives((free("aa", "bb", "dd", "ee", "ff"), (("aa", "bb"), ("dd", "ee"))), without_machine, SIX, "cc")

    def test_not_a_network(self):
        self.fails(InvalidOperation, without_machine, LONELY, "a")
        self.fails(InvalidOperation, without_machine, CALL, "a")
        self.fails(InvalidOperation, without_machine, WIDE, "mid")
        self.fails(InvalidOperation, without_machine, WIDE, "west")
        self.gives(True, is_network, without_machine(WIDE, "zero"))


class WithLink(Case):
    def test_added(self):
        two = make_network(a=NONE, b=NONE)
        wanted = (free("a", "b"), (("a", "b"),))
        self.gives(wanted, with_link, two, "a", "b")
        self.gives(wanted, with_link, two, "b", "a")
        self.same(with_link(SIX, "ff", "bb")[1], (("aa", "bb"), ("aa", "cc"), ("bb", "ff"), ("dd", "ee")))
        self.same(with_link(SIX, "dd", "cc")[1], (("aa", "bb"), ("aa", "cc"), ("cc", "dd"), ("dd", "ee")))

    def test_there_already(self):
        self.fails(InvalidOperation, with_link, CALL, "a", "b")
        self.fails(InvalidOperation, with_link, CALL, "b", "a")

    def test_not_a_network(self):
        self.fails(InvalidOperation, with_link, CALL, "a", "a")
        self.fails(InvalidOperation, with_link, SIX, "bb", "cc")
        self.fails(InvalidOperation, with_link, SIX, "cc", "bb")
        self.fails(InvalidOperation, with_link, WIDE, "west", "east")


class WithoutLink(Case):
    def test_removed(self):
        two = make_network(("a", "b"), a=NONE, b=NONE)
        self.gives((free("a", "b"), ()), without_link, two, "a", "b")
        self.gives((free("a", "b"), ()), without_link, two, "b", "a")
        self.same(without_link(SIX, "cc", "aa")[1], (("aa", "bb"), ("dd", "ee")))

    def test_not_there(self):
        self.fails(InvalidOperation, without_link, LONELY, "a", "a")
        self.fails(InvalidOperation, without_link, make_network(a=NONE, b=NONE), "a", "b")
        self.fails(InvalidOperation, without_link, SIX, "bb", "cc")
        self.fails(InvalidOperation, without_link, CALL, "b", "b")

    def test_not_a_network(self):
        self.fails(InvalidOperation, without_link, CALL, "b", "a")
        self.fails(InvalidOperation, without_link, CALL, "a", "b")
        self.fails(InvalidOperation, without_link, FLOW, "c", "d")
        half = make_network(("a", "b"), a=A, b=NONE)
        self.fails(InvalidOperation, without_link, half, "a", "b")


class Renamed(Case):
    def test_document(self):
        self.same(renamed_network(CALL, a="z")[1], (("b", "z"),))

    def test_everywhere(self):
        wanted = ((("b", renamed_machine(B, a="z")), ("z", A)), (("b", "z"),))
        self.gives(wanted, renamed_network, CALL, a="z")
        self.gives(wanted, renamed_network_by, CALL, {"a": "z"})
        self.same(wanted[0][0][1][2], ((0, ("take", "z", "go"), 1), (1, ("send", "z", "ok"), 0)))
        self.same(is_network(renamed_network(CALL, a="z")), True)

    def test_without_effect(self):
        for names in ({}, {"a": "a"}, {"a": "a", "b": "b"}):
            self.gives(CALL, renamed_network_by, CALL, names)
            self.gives(CALL, renamed_network, CALL, **names)

    def test_exchanged(self):
        wanted = ((("a", renamed_machine(B, a="b")), ("b", renamed_machine(A, b="a"))), (("a", "b"),))
        self.gives(wanted, renamed_network, CALL, a="b", b="a")
        self.gives(CALL, renamed_network, wanted, b="a", a="b")

    def test_a_ring_of_names(self):
        names = {"west": "mid", "mid": "east", "east": "west"}
        found = renamed_network_by(WIDE, names)
        self.assertTrue(is_network(found))
        self.same(machine_of(found, "east"), renamed_machine(MID, west="mid", east="west"))
        self.same(machine_of(found, "mid"), renamed_machine(WEST, mid="east"))
        self.same(found[1], (("east", "mid"), ("east", "west"), ("left", "right")))
        back = {new: old for old, new in names.items()}
        self.gives(WIDE, renamed_network_by, found, back)

    def test_links_in_order(self):
        found = renamed_network_by(SIX, {"aa": "zz", "dd": "x", "ee": "b"})
        self.same(found[1], (("b", "x"), ("bb", "zz"), ("cc", "zz")))
        self.same(machine_names(found), ("b", "bb", "cc", "ff", "x", "zz"))

    def test_names_equal_to_a_parameter(self):
        wanted = renamed_network_by(CALL, {"a": "network", "b": "names"})
        self.same(machine_names(wanted), ("names", "network"))
        self.gives(CALL, renamed_network_by, wanted, {"network": "a", "names": "b"})

    def test_random(self):
        for seed in range(40):
            network = random_network(seed)
            rng = random.Random(seed)
            old = machine_names(network)
            names = dict(zip(old, rng.sample(old + ("q", "abcdefgh"), len(old))))
            found = renamed_network_by(network, names)
            self.assertTrue(spec.network(found))
            self.same(machine_names(found), tuple(sorted(names.values())))
            for one, other in network[1]:
                self.assertIn(tuple(sorted((names[one], names[other]))), found[1])
            for name in old:
                machine = machine_of(network, name)
                near = {other: names[other] for other in spec.neighbours(machine)}
                rows = [(row[0], (row[1][0], near[row[1][1]], row[1][2]) if len(row[1]) == 3 else row[1], row[2])
                        for row in machine[2]]
                self.same(machine_of(found, names[name]), make_machine(machine[0], *rows, finals=machine[1]))
            self.same(renamed_network_by(found, {names[name]: name for name in old}), network)

    def test_two_machines_with_one_name(self):
        self.fails(InvalidOperation, renamed_network, CALL, a="b")
        self.fails(InvalidOperation, renamed_network, CALL, b="a")
        self.fails(InvalidOperation, renamed_network, CALL, a="q", b="q")
        self.fails(InvalidOperation, renamed_network_by, SIX, {"aa": "ff"})

    def test_unknown_names(self):
        self.fails((UnknownName, "c"), renamed_network, CALL, c="d")
        self.fails((UnknownName, "c"), renamed_network_by, CALL, {"z": "a", "c": "d", "d": "c", "a": "b"})
        self.fails((UnknownName, "aa"), renamed_network_by, CALL, {"z": "y", "aa": "b", "b": "b"})
        # The name that is not there comes before the name that two machines get.
        self.fails((UnknownName, "c"), renamed_network, CALL, a="b", c="b")

    def test_wrong_names(self):
        for names in unlike(spec.naming):
            self.fails(InvalidOperation, renamed_network_by, CALL, names)
        for value in unlike(spec.name):
            self.fails(InvalidOperation, renamed_network_by, CALL, {"a": value})
            self.fails(InvalidOperation, renamed_network_by, CALL, {"nobody": "b", "a": value})
            self.fails(InvalidOperation, renamed_network, CALL, a=value)
        for key in (0, True, None, "", "A", "abcdefghi", ("a",), "a\n", ("a", "b")):
            self.fails(InvalidOperation, renamed_network_by, CALL, {key: "b"})
            self.fails(InvalidOperation, renamed_network_by, CALL, {key: "b", "nobody": "c"})
        for names in ([("a", "e")], (("a", "e"),), ["a", "e"], "ae"):
            self.fails(InvalidOperation, renamed_network_by, CALL, names)

    def test_long_names(self):
        self.same(machine_names(renamed_network(CALL, a="zbcdefgh")), ("b", "zbcdefgh"))
        self.fails(InvalidOperation, renamed_network, CALL, a="zbcdefghi")


class WrongNetworks(Case):
    CALLS = (
        (machine_names,), (machine_of, None), (channels_of,), (linked_to, None), (trees_of,), (way_between, 0, None),
        (with_machine, 0, None), (without_machine, []), (with_link, 0, None), (without_link, {}, None),
        (renamed_network_by, None),
    )

    def test_they_come_first(self):
        for value in unlike(spec.network):
            for function, *others in self.CALLS:
                self.fails(InvalidNetwork, function, value, *others)
            self.fails(InvalidNetwork, renamed_network, value, nobody=0)

    def test_spoiled(self):
        for value in spoiled(CALL):
            if not spec.network(value):
                self.fails(InvalidNetwork, machine_names, value)
                self.fails(InvalidNetwork, renamed_network_by, value, {})

    def test_spoiled_for_each_function(self):
        for value in spoiled(MEET, (True, None, [], "p", (), 7)):
            if not spec.network(value):
                for function, *others in self.CALLS:
                    self.fails(InvalidNetwork, function, value, *others)


if __name__ == "__main__":
    unittest.main()
