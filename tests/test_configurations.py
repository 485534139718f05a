"""[2.3] and the functions of halflink.networks.configurations."""

import unittest

from halflink.errors import InvalidConfiguration, InvalidNetwork, InvalidNumber, InvalidOperation, UnknownName
from halflink.networks.configurations import (
    configuration_from, configuration_with, crossed_links, first_configuration, is_configuration, letter_count,
    queue_of,
)
from halflink.networks.networks import channels_of, make_network, renamed_network
from tests import spec
from tests.case import Case
from tests.samples import A, CALL, LONELY, MEET, NETWORKS, NONE, STEPS, TALKERS, WIDE, random_network, random_start
from tests.wrong import ALL, FEW, spoiled, unlike

BOTH = configuration_with(MEET, {("p", "q"): ("x",), ("q", "p"): ("y", "y")})
LONG = ("x", "y") * 5000
NAMED = make_network(("network", "queues"), ("network", "states"), network=A[:2] + ((),), queues=STEPS[0][0][1],
                     states=STEPS[0][0][1])


class IsConfiguration(Case):
    def test_document(self):
        self.same([first_configuration(CALL), is_configuration(CALL, ((0, 2), ((), ())))],
                  [((0, 0), ((), ())), False])

    def test_first(self):
        self.gives(((0,), ()), first_configuration, LONELY)
        self.gives(((0, 0), ()), first_configuration, STEPS)
        self.gives(((0, 0, 0, 0, 0, 0), ((), (), (), (), (), ())), first_configuration, WIDE)
        for network in NETWORKS:
            self.gives(True, is_configuration, network, first_configuration(network))

    def test_configurations(self):
        for value in (((1, 1), ((), ())), ((0, 1), (("go",), ())), ((0, 1), (("any", "any"), ("letter", "abcdefgh"))),
                      ((0, 0), (LONG, LONG)), ((1, 0), ((), ("x",) * 21))):
            self.gives(True, is_configuration, CALL, value)

    def test_states(self):
        for state in range(3):
            self.gives(True, is_configuration, STEPS, ((state, 0), ()))
        for states in ((3, 0), (0, 1), (-1, 0), (True, 0), (0, False), (0,), (0, 0, 0), [0, 0], (), None, "00",
                       (None, 0), ((0,), 0), {0: 0, 1: 0}, ("0", 0)):
            self.gives(False, is_configuration, STEPS, (states, ()))

    def test_queues(self):
        for queues in ((), ((),), ((), (), ()), [(), ()], ([], ()), ((), []), (None, ()), (("abcdefghi",), ()),
                       (("",), ()), (("A",), ()), ((True,), ()), ((0,), ()), ((None,), ()), (("go", ("go",)), ()),
                       ("", ""), ("go", ()), ((("go",),), ()), ({}, ()), ((["go"],), ()), None, {}, ("", ()),
                       (("go", "go\n"), ()), ((), LONG + (1,)), ((), ("x",) * 10000 + ("",))):
            self.gives(False, is_configuration, CALL, ((0, 0), queues))

    def test_every_value(self):
        for network in (CALL, LONELY, STEPS, MEET):
            for value in ALL:
                self.gives(spec.configuration(network, value), is_configuration, network, value)

    def test_every_spoiled_part(self):
        right = 0
        for network, value in ((CALL, ((1, 0), (("go", "x"), ()))), (MEET, BOTH), (LONELY, ((0,), ())),
                               (WIDE, first_configuration(WIDE))):
            for part in spoiled(value):
                self.gives(spec.configuration(network, part), is_configuration, network, part)
                right += spec.configuration(network, part)
        self.assertGreater(right, 10)

    def test_of_another_network(self):
        self.gives(False, is_configuration, CALL, first_configuration(WIDE))
        self.gives(False, is_configuration, WIDE, first_configuration(CALL))


class ConfigurationWith(Case):
    def test_document(self):
        self.same(configuration_with(CALL, {("a", "b"): ("go",)}, a=1), ((1, 0), (("go",), ())))

    def test_plain(self):
        self.gives(((0, 0), ((), ())), configuration_with, CALL)
        self.gives(((0, 0), ((), ())), configuration_with, CALL, None)
        self.gives(((0, 0), ((), ())), configuration_with, CALL, {})
        self.gives(((0, 0), ((), ())), configuration_with, CALL, queues={})
        self.gives(((0, 1), ((), ())), configuration_with, CALL, b=1)
        self.gives(((1, 1), ((), ())), configuration_with, CALL, b=1, a=1)
        self.gives(((0, 0), ((), ("ok", "no"))), configuration_with, CALL, {("b", "a"): ("ok", "no")})
        self.gives(((1, 0), (("go",), ())), configuration_from, CALL, {("a", "b"): ("go",)}, {"a": 1})
        self.gives(((0, 0), ((), ())), configuration_from, CALL, None, {})
        self.gives(((0, 0), ((), ())), configuration_from, CALL, {("b", "a"): ()}, {"b": 0})

    def test_order_of_machines_and_channels(self):
        queues = {("west", "mid"): ("a",), ("mid", "west"): ("b",), ("east", "mid"): ("c", "d"),
                  ("left", "right"): ("e",)}
        wanted = ((2, 0, 3, 0, 1, 1), (("c", "d"), ("e",), (), ("b",), (), ("a",)))
        self.gives(wanted, configuration_with, WIDE, queues, zero=1, west=1, mid=3, east=2)
        self.gives(wanted, configuration_from, WIDE, queues, {"zero": 1, "west": 1, "mid": 3, "east": 2, "left": 0})

    def test_long_queues_and_both_full(self):
        found = configuration_with(CALL, {("a", "b"): LONG, ("b", "a"): LONG[1:]})
        self.same(found, ((0, 0), (LONG, LONG[1:])))
        self.gives(True, is_configuration, CALL, found)

    def test_names_equal_to_a_parameter(self):
        states = {"network": 1, "queues": 2, "states": 1}
        queues = {("network", "states"): ("x",)}
        self.gives(((1, 2, 1), ((), ("x",), (), ())), configuration_from, NAMED, queues, states)
        self.gives(((0, 0, 2), ((), (), (), ())), configuration_with, NAMED, states=2)

    def test_wrong_queues(self):
        for queues in ALL:
            if queues not in (None, {}) and not (isinstance(queues, dict) and set(queues) <= {("a", "b")}):
                self.fails(InvalidConfiguration, configuration_with, CALL, queues)
                self.fails(InvalidConfiguration, configuration_from, CALL, queues, None)
                self.fails(InvalidConfiguration, configuration_with, CALL, queues, nobody=0)
        for queue in ALL:
            if not spec.names_row(queue):
                self.fails(InvalidConfiguration, configuration_with, CALL, {("a", "b"): queue})
                self.fails(InvalidConfiguration, configuration_from, CALL, {("b", "a"): (), ("a", "b"): queue}, {})
        for letter in unlike(spec.name):
            self.fails(InvalidConfiguration, configuration_with, CALL, {("b", "a"): ("go", letter)})
        for key in (("a",), ("a", "a"), ("a", "c"), ("a", "b", "a"), "ab", "a", 0, True, None, (), ("b", True), 1,
                    (("a", "b"),)):
            self.fails(InvalidConfiguration, configuration_with, CALL, {key: ()})
            self.fails(InvalidConfiguration, configuration_with, CALL, {("a", "b"): ("x",), key: ("x",)})
        self.fails(InvalidConfiguration, configuration_with, LONELY, {("a", "a"): ()})
        self.fails(InvalidConfiguration, configuration_with, WIDE, {("west", "east"): ()})
        self.fails(InvalidConfiguration, configuration_with, CALL, ((), ()))

    def test_wrong_states(self):
        for states in ALL:
            if not (isinstance(states, dict) and all(isinstance(key, str) for key in states)):
                self.fails(InvalidOperation, configuration_from, CALL, None, states)
                self.fails(InvalidOperation, configuration_from, CALL, {("a", "b"): ("x",)}, states)
        for key in (0, True, None, ("a",), ("a", "b"), 1):
            self.fails(InvalidOperation, configuration_from, CALL, None, {key: 0})
            self.fails(InvalidOperation, configuration_from, CALL, None, {"nobody": 7, "a": 7, key: 0})
        for states in ([("a", 0)], (("a", 0),), ["a"], (0, 0)):
            self.fails(InvalidOperation, configuration_from, CALL, None, states)

    def test_unknown_names(self):
        for name in ("c", "aa", "", "A", "a\n", "abcdefghi", "a b", "0"):
            self.fails((UnknownName, name), configuration_from, CALL, None, {name: 0})
            self.fails((UnknownName, name), configuration_from, CALL, None, {"a": 9, name: True, "b": None})
        self.fails((UnknownName, "c"), configuration_with, CALL, d=0, c=0, e=0, a=0)
        self.fails((UnknownName, "A"), configuration_from, CALL, None, {"z": 0, "c": 0, "A": 0, "a": 5})

    def test_wrong_numbers(self):
        for state in unlike(lambda value: spec.whole(value, 0, 1)):
            self.fails((InvalidNumber, state), configuration_with, CALL, a=state)
            self.fails((InvalidNumber, state), configuration_with, CALL, b=state)
            self.fails((InvalidNumber, state), configuration_from, CALL, {}, {"b": state, "a": 1})
        self.fails((InvalidNumber, 2), configuration_with, CALL, b=3, a=2)
        self.fails((InvalidNumber, 3), configuration_with, CALL, b=3, a=1)
        self.fails((InvalidNumber, True), configuration_with, CALL, b=3, a=True)
        self.fails((InvalidNumber, 4), configuration_from, WIDE, None, {"west": 7, "zero": 8, "mid": 4, "east": 2})

    def test_wrong_networks(self):
        for network in unlike(spec.network):
            self.fails(InvalidNetwork, is_configuration, network, None)
            self.fails(InvalidNetwork, first_configuration, network)
            self.fails(InvalidNetwork, configuration_with, network, 0, nobody=0)
            self.fails(InvalidNetwork, configuration_from, network, 0, 0)
            self.fails(InvalidNetwork, queue_of, network, None, 0, 0)
            self.fails(InvalidNetwork, letter_count, network, None)
            self.fails(InvalidNetwork, crossed_links, network, None)

    def test_spoiled_networks(self):
        for network in spoiled(CALL, FEW[:12]):
            if not spec.network(network):
                self.fails(InvalidNetwork, is_configuration, network, ((0, 0), ((), ())))
                self.fails(InvalidNetwork, crossed_links, network, ((0, 0), ((), ())))


class Queues(Case):
    def test_document(self):
        self.same([queue_of(MEET, BOTH, "q", "p"), letter_count(MEET, BOTH), crossed_links(MEET, BOTH)],
                  [("y", "y"), 3, (("p", "q"),)])

    def test_queue_of(self):
        self.gives(("x",), queue_of, MEET, BOTH, "p", "q")
        queues = {channel: channel for channel in channels_of(WIDE)}
        full = configuration_with(WIDE, queues)
        for sender, taker in queues:
            self.gives((sender, taker), queue_of, WIDE, full, sender, taker)
            self.gives((), queue_of, WIDE, first_configuration(WIDE), sender, taker)

    def test_not_a_channel(self):
        for value in ALL:
            if value != "a":
                self.fails(InvalidOperation, queue_of, CALL, first_configuration(CALL), value, "b")
                self.fails(InvalidOperation, queue_of, CALL, first_configuration(CALL), "b", value)
        self.fails(InvalidOperation, queue_of, CALL, first_configuration(CALL), "a", "a")
        self.fails(InvalidOperation, queue_of, WIDE, first_configuration(WIDE), "west", "east")
        self.fails(InvalidOperation, queue_of, WIDE, first_configuration(WIDE), "zero", "mid")
        self.fails(InvalidOperation, queue_of, LONELY, first_configuration(LONELY), "a", "a")

    def test_letter_count(self):
        self.gives(0, letter_count, LONELY, first_configuration(LONELY))
        self.gives(0, letter_count, WIDE, first_configuration(WIDE))
        self.gives(20000, letter_count, CALL, ((0, 0), (LONG, LONG)))
        self.gives(7, letter_count, WIDE, configuration_with(
            WIDE, {("west", "mid"): ("a", "b"), ("mid", "east"): ("c",), ("right", "left"): ("d",) * 4}))

    def test_crossed_links(self):
        self.gives((), crossed_links, MEET, first_configuration(MEET))
        self.gives((), crossed_links, MEET, configuration_with(MEET, {("p", "q"): ("x", "x")}))
        self.gives((), crossed_links, MEET, configuration_with(MEET, {("q", "p"): ("x",)}))
        self.gives((("a", "b"),), crossed_links, CALL, ((0, 0), (LONG, LONG)))
        # Queues of two links are full, but both queues of no link.
        two = {("west", "mid"): ("x",), ("mid", "east"): ("x",)}
        self.gives((), crossed_links, WIDE, configuration_with(WIDE, two))
        three = {channel: ("x",) for channel in channels_of(WIDE)}
        self.gives((("east", "mid"), ("left", "right"), ("mid", "west")), crossed_links, WIDE,
                   configuration_with(WIDE, three))
        three["left", "right"] = ()
        self.gives((("east", "mid"), ("mid", "west")), crossed_links, WIDE, configuration_with(WIDE, three))

    def test_random(self):
        for seed in range(60):
            network = random_network(seed)
            found = random_start(seed, network)
            self.gives(True, is_configuration, network, found)
            self.gives(tuple(spec.crossed(network, found)), crossed_links, network, found)
            self.gives(sum(map(len, found[1])), letter_count, network, found)
            for at, (sender, taker) in enumerate(spec.channels(network)):
                self.gives(found[1][at], queue_of, network, found, sender, taker)
            queues = dict(zip(spec.channels(network), found[1]))
            states = dict(zip([name for name, _ in network[0]], found[0]))
            self.gives(found, configuration_from, network, queues, states)

    def test_wrong_configurations(self):
        for value in ALL + tuple(spoiled(((1, 0), (("go", "x"), ())))):
            if not spec.configuration(CALL, value):
                self.fails(InvalidConfiguration, queue_of, CALL, value, "a", "b")
                self.fails(InvalidConfiguration, queue_of, CALL, value, None, [])
                self.fails(InvalidConfiguration, letter_count, CALL, value)
                self.fails(InvalidConfiguration, crossed_links, CALL, value)
        self.fails(InvalidConfiguration, letter_count, CALL, None)

    def test_names_that_change_the_order(self):
        turned = renamed_network(CALL, a="z")
        self.same(channels_of(turned), (("b", "z"), ("z", "b")))
        self.gives(((1, 0), ((), ("go",))), configuration_with, turned, {("z", "b"): ("go",)}, b=1)


class Talkers(Case):
    def test_both_queues_of_a_link(self):
        full = configuration_with(TALKERS, {("u", "v"): ("x",), ("v", "u"): ("y",)})
        self.gives((("u", "v"),), crossed_links, TALKERS, full)
        self.gives(2, letter_count, TALKERS, full)
        self.gives(((0, 0), (("x",), ("y",))), configuration_with, TALKERS, {("v", "u"): ("y",), ("u", "v"): ("x",)})
        self.gives(((0, 0), ()), first_configuration, make_network(a=NONE, b=NONE))


if __name__ == "__main__":
    unittest.main()
