"""[11.1] to [11.3] and the functions of halflink.talks.alike."""

import itertools
import random
import unittest

from halflink.errors import InvalidMachine, InvalidOperation, InvalidWord, TooMany
from halflink.machines.machines import is_machine, is_single, make_machine, renamed_machine
from halflink.networks.networks import is_network, make_network
from halflink.talks.alike import (
    are_alike, careful_difference, is_likeness, is_telling, likeness_of, mirror_machine, paired_network,
    telling_surrounding,
)
from halflink.talks.talks import Talk
from halflink.talks.words import is_doing, mirrored_word
from tests import many, plain, plaintalk, sizes, spec
from tests.case import Case
from tests.plaintalk import careful, changed, closed, order, random_single
from tests.samples import A, B, D, MID, NONE, Q
from tests.wrong import ALL, FEW, spoiled, unlike

LOUD = make_machine(2, (0, ("send", "p", "y"), 1))
PAIRS = [(Q, LOUD), (LOUD, A), (A, B), (NONE, NONE), (D, NONE), (A, renamed_machine(A, b="zz"))] + [
    (random_single(seed), random_single(seed + 1000)) for seed in range(100)] + [
    (random_single(seed), changed(seed, random_single(seed))) for seed in range(200, 380)]
JOINED = (are_alike, careful_difference, likeness_of, telling_surrounding)


def line(letters, word="send", other="b"):
    return make_machine(len(letters) + 1, *[(at, (word, other, letter), at + 1) for at, letter in enumerate(letters)])


def some_difference(first, second, longest):
    """The smallest careful word of just one machine among those up to a length."""
    one, other = (careful(plaintalk.words(machine, longest)) for machine in (first, second))
    found = [(word, 0) for word in one if word not in other] + [(word, 1) for word in other if word not in one]
    return min(found, key=lambda pair: order(pair[0])) if found else None


def ahead(machine, states):
    found = {}
    for part in machine[2]:
        if part[0] in states and plaintalk.sign(part):
            found.setdefault(plaintalk.sign(part), set()).add(part[2])
    if any(sign[0] == "send" for sign in found):
        found = {sign: found[sign] for sign in found if sign[0] == "send"}
    return {sign: tuple(sorted(closed(machine, found[sign]))) for sign in found}


def is_set(machine, value):
    return type(value) is tuple and all(spec.whole(state, 0, machine[0] - 1) for state in value) and (
        list(value) == sorted(set(value)) and closed(machine, value) == set(value))


def likeness(first, second, value):
    """Whether the value is a likeness, by the words of the document."""
    if type(value) is not tuple or not all(type(pair) is tuple and len(pair) == 2 for pair in value):
        return False
    if not all(is_set(first, one) and is_set(second, other) for one, other in value):
        return False
    if list(value) != sorted(set(value)):
        return False
    if (tuple(sorted(closed(first, {0}))), tuple(sorted(closed(second, {0})))) not in value:
        return False
    for one, other in value:
        near, far = ahead(first, one), ahead(second, other)
        if set(near) != set(far) or not all((near[sign], far[sign]) in value for sign in near):
            return False
    return True


def telling(first, second, value):
    if type(value) is not tuple or len(value) != 2 or not plaintalk.single(value[0]):
        return False
    if type(value[1]) is not str or value[1] not in ("crossing", "end"):
        return False
    seen = []
    for left in (first, second):
        network = paired_network(left, value[0])
        views = plain.views(network, spec.first(network))
        seen.append((any(spec.exposed(network, view) for view in views),
                     any(view[0][1] == value[0][0] - 1 and view[1] == ((),) for view in views)))
    if value[1] == "crossing":
        return seen[0][0] != seen[1][0]
    return not seen[0][0] and not seen[1][0] and seen[0][1] != seen[1][1]


class Alike(Case):
    def test_document(self):
        self.same([are_alike(Q, LOUD), careful_difference(LOUD, A),
                   is_telling(LOUD, A, (mirror_machine((("send", "y"),), "p"), "end"))],
                  [True, ((("send", "go"),), 1), True])

    def test_paired_networks(self):
        wanted = make_network(("left", "right"), left=renamed_machine(A, b="right"), right=renamed_machine(B, a="left"))
        self.gives(wanted, paired_network, A, B)
        self.gives(make_network(("left", "right"), left=NONE, right=NONE), paired_network, NONE, NONE)
        for first, second in PAIRS:
            network = paired_network(first, second)
            self.assertTrue(is_network(network))
            self.same(network[1], (("left", "right"),))
            for (name, machine), old, other in zip(network[0], (first, second), ("right", "left")):
                self.same(machine, renamed_machine(old, **{near: other for near in spec.neighbours(old)}))

    def test_against_all_words(self):
        alike = 0
        for first, second in PAIRS:
            wanted = some_difference(first, second, 5)
            found = careful_difference(first, second)
            self.gives(found, careful_difference, first, second)
            if wanted is not None or found is None or len(found[0]) <= 5:
                self.same(found, wanted)
            self.gives(found is None, are_alike, first, second)
            self.gives(found is None, are_alike, second, first)
            turned = careful_difference(second, first)
            self.same(turned, None if found is None else (found[0], 1 - found[1]))
            self.assertIs(found is None, Talk.careful_of(first) == Talk.careful_of(second))
            alike += found is None
        self.assertGreater(alike, 60)
        self.assertGreater(len(PAIRS) - alike, 60)

    def test_likenesses(self):
        for first, second in PAIRS:
            found = likeness_of(first, second)
            self.gives(found, likeness_of, first, second)
            self.assertIs(found is not None, are_alike(first, second))
            if found is None:
                self.gives(False, is_likeness, first, second, ())
                continue
            self.assertTrue(likeness(first, second, found))
            self.gives(True, is_likeness, first, second, found)
            self.gives(True, is_likeness, second, first, tuple(sorted((other, one) for one, other in found)))
            for at in range(len(found)):
                for value in (found[:at] + found[at + 1:], found[:at] + found[at:at + 1] + found[at:], list(found)):
                    self.gives(likeness(first, second, value), is_likeness, first, second, value)
            if len(found) > 1:
                self.gives(False, is_likeness, first, second, found[::-1])
        self.gives((((0,), (0,)), ((1,), (1,))), likeness_of, Q, LOUD)

    def test_further_pairs(self):
        accepted = refused = 0
        for seed, (first, second) in enumerate(PAIRS):
            found = likeness_of(first, second)
            rng = random.Random(seed)
            every = [tuple(sorted(closed(machine, rng.sample(range(machine[0]), rng.randint(0, machine[0])))))
                     for machine in (first, second)]
            more, waiting = set(), [tuple(every)]
            while waiting:
                pair = waiting.pop()
                if pair not in more:
                    more.add(pair)
                    near, far = ahead(first, pair[0]), ahead(second, pair[1])
                    waiting += [(near[sign], far[sign]) for sign in near if sign in far]
            for value in (tuple(sorted(more | set(found or ()))), tuple(sorted(more | {((), ())} | set(found or ())))):
                wanted = likeness(first, second, value)
                accepted += wanted and set(value) != set(found or ())
                refused += not wanted
                self.gives(wanted, is_likeness, first, second, value)
        self.assertGreater(min(accepted, refused), 40)
        self.gives(True, is_likeness, Q, LOUD, (((), ()), ((0,), (0,)), ((1,), (1,))))
        self.gives(True, is_likeness, Q, LOUD, (((), (1,)), ((0,), (0,)), ((1,), (1,))))
        self.gives(False, is_likeness, Q, LOUD, (((), (0,)), ((0,), (0,)), ((1,), (1,))))

    def test_steps_lead_out_of_no_set(self):
        machine = make_machine(3, (0, ("step",), 1), (1, ("step",), 2))
        self.gives((((0, 1, 2), (0, 1, 2)),), likeness_of, machine, machine)
        for more, wanted in (((1, 2), True), ((2,), True), ((), True), ((0,), False), ((1,), False), ((0, 1), False),
                             ((0, 2), False), ((2, 1), False), ((1, 2, 2), False)):
            for pair in ((more, (2,)), ((2,), more), (more, more)):
                value = tuple(sorted((pair, ((0, 1, 2), (0, 1, 2)))))
                self.gives(wanted, is_likeness, machine, machine, value)

    def test_every_spoiled_part(self):
        for first, second in PAIRS[:6] + PAIRS[-6:]:
            found = likeness_of(first, second) or (((0,), (0,)),)
            if len(repr(found)) > 300:
                continue
            for value in list(spoiled(found, FEW[:16] + ((0, 1), ((), ())))) + list(ALL):
                self.gives(likeness(first, second, value), is_likeness, first, second, value)

    def test_tellings(self):
        for first, second in PAIRS:
            found = telling_surrounding(first, second)
            self.gives(found, telling_surrounding, first, second)
            difference = careful_difference(first, second)
            if difference is None:
                self.assertIsNone(found)
                continue
            self.same(found, (mirror_machine(difference[0], "left"), "end"))
            self.assertTrue(telling(first, second, found))
            self.gives(True, is_telling, first, second, found)
            self.gives(True, is_telling, second, first, found)
            self.gives(False, is_telling, first, second, (found[0], "crossing"))

    def test_tellings_of_other_makers(self):
        seen = {}
        for seed, (first, second) in enumerate(PAIRS):
            for at in range(6):
                value = (random_single(7 * seed + at, 3), ("crossing", "end")[at % 2])
                wanted = telling(first, second, value)
                key = (value[1], wanted)
                seen[key] = seen.get(key, 0) + 1
                # No surrounding tells alike machines apart.
                self.assertFalse(wanted and are_alike(first, second))
                self.gives(wanted, is_telling, first, second, value)
        self.assertEqual(len(seen), 4)
        self.assertGreater(min(seen.values()), 15)

    def test_wrong_tellings(self):
        right = (mirror_machine((("send", "y"),), "p"), "end")
        for value in list(spoiled(right, FEW[:14] + ("crossing", "p"))) + list(ALL):
            self.gives(telling(LOUD, A, value), is_telling, LOUD, A, value)
        for value in ((MID, "end"), (NONE, "other"), (NONE,), [NONE, "end"], (NONE, ["end"]), ("end", NONE),
                      (None, "end")):
            self.gives(False, is_telling, LOUD, A, value)


class Mirrors(Case):
    def test_mirror_machines(self):
        self.gives((1, (0,), ()), mirror_machine, (), "p")
        self.gives((3, (2,), ((0, ("take", "p", "go"), 1), (1, ("send", "p", "ok"), 2))), mirror_machine,
                   (("send", "go"), ("take", "ok")), "p")
        for length in range(30):
            word = tuple((("send", "take")[at % 3 == 0], "xyz"[at % 2]) for at in range(length))
            machine = mirror_machine(word, "other")
            self.assertTrue(is_machine(machine) and is_single(machine))
            self.same(machine[:2], (length + 1, (length,)))
            self.gives(True, is_doing, machine, mirrored_word(word), tuple(range(length)))
        self.fails((TooMany, 30), mirror_machine, (("send", "x"),) * 30, "p")
        self.fails((TooMany, 30), mirror_machine, (("send", "x"),) * 3000, "p")
        for value in unlike(plaintalk.word):
            self.fails(InvalidWord, mirror_machine, value, 0)
        for value in unlike(spec.name):
            self.fails(InvalidOperation, mirror_machine, (), value)
            self.fails(InvalidOperation, mirror_machine, (("send", "x"),) * 30, value)


class Edges(Case):
    def test_differences_of_29_and_30_signs(self):
        for length in (28, 29):
            first, second = line("x" * length), line("x" * (length - 1))
            self.gives(((("send", "x"),) * length, 0), careful_difference, first, second)
            found = telling_surrounding(first, second)
            self.same(found[0][0], length + 1)
            self.gives(True, is_telling, first, second, found)
        ring = make_machine(1, (0, ("send", "b", "x"), 0))
        self.gives(((("send", "x"),) * 30, 1), careful_difference, line("x" * 29), ring)
        self.fails((TooMany, 30), telling_surrounding, line("x" * 29), ring)
        self.gives(((("send", "x"),) * 29, 1), careful_difference, line("x" * 28), ring)
        self.assertEqual(telling_surrounding(line("x" * 28), ring)[0][0], 30)

    def test_a_sign_of_just_one_machine(self):
        # The take is careful in the one machine alone, although both can do it.
        first = make_machine(2, (0, ("send", "b", "x"), 1), (0, ("take", "b", "y"), 1))
        second = make_machine(2, (0, ("take", "b", "y"), 1))
        self.gives(((("send", "x"),), 0), careful_difference, first, second)
        third = make_machine(2, (0, ("take", "b", "y"), 1), (0, ("take", "b", "z"), 1))
        self.gives(((("take", "z"),), 1), careful_difference, second, third)
        self.gives(((("take", "y"),), 0), careful_difference, second, NONE)
        self.gives(None, careful_difference, first, make_machine(2, (0, ("send", "q", "x"), 1)))

    def test_all_machines_with_two_states(self):
        deeds = [("send", "p", "x"), ("take", "p", "x"), ("step",)]
        parts = [(0, deed, behind) for deed in deeds for behind in (0, 1)] + [(1, deeds[0], 0), (1, deeds[1], 1)]
        machines = [make_machine(2, *some) for some in itertools.combinations(parts, 2)]
        for first, second in itertools.combinations(machines, 2):
            wanted = some_difference(first, second, 5)
            self.gives(wanted, careful_difference, first, second)
            self.gives(wanted is None, lambda: likeness_of(first, second) is not None)

    def test_many_sets(self):
        right, more = many.machine_2000(), many.machine_2001()
        ring = make_machine(1, (0, ("send", "b", "x"), 0), (0, ("send", "b", "y"), 0))
        self.gives(True, are_alike, right, ring)
        self.gives(2000, lambda: len(likeness_of(right, ring)))
        self.gives(True, is_likeness, right, ring, likeness_of(right, ring))
        for function in JOINED:
            self.fails((TooMany, 2000), function, more, ring)
            self.fails((TooMany, 2000), function, ring, more)
            self.fails((TooMany, 200), function, many.machine_rings(2), more)
            self.fails((TooMany, 2000), function, more, many.machine_rings(2))
        # Just one pair more, as the first set comes again beside another state of the second machine.
        late = make_machine(2, *[(state, ("send", "b", letter), 1) for state in (0, 1) for letter in "xy"])
        self.gives(True, are_alike, right, late)
        self.fails((TooMany, 2000), likeness_of, right, late)
        # Takes beside sends are not careful, so they do not count.
        self.gives(True, are_alike, many.machine_careful_2000(), ring)
        # Each machine has few sets, but both together have many pairs of them.
        rings = [make_machine(1 + sum(lengths), *ring_steps(lengths)) for lengths in ((7, 8), (9, 11))]
        self.gives(True, are_alike, *rings)
        self.fails((TooMany, 2000), likeness_of, *rings)
        self.gives(False, is_likeness, *rings, ())
        rings = [make_machine(1 + sum(lengths), *ring_steps(lengths)) for lengths in ((5, 8), (7,))]
        self.assertEqual(len(likeness_of(*rings)), 281)

    def test_pairs_with_many_views(self):
        # 30 * 30 states, and posts of different letters: more than 2000 views, but each machine has few sets of states.
        letters = "abcdefgh"
        first = make_machine(30, *[(at, ("step",), at + 1) for at in range(29)],
                             *[(at, ("send", "b", letter), at) for at, letter in enumerate(letters)])
        self.fails((TooMany, 2000), is_telling, first, NONE, (sizes.cycle(30), "end"))
        self.fails((TooMany, 2000), is_telling, NONE, first, (sizes.cycle(30), "crossing"))
        # 20 * 25 states, with a free link or one of 3 letters; 23 * 29 states, with a free link or one of 2 letters.
        right = make_machine(20, *sizes.cycle(20)[2], *[(0, ("send", "b", letter), 0) for letter in "abc"])
        more = make_machine(23, *sizes.cycle(23)[2], *[(0, ("send", "b", letter), 0) for letter in "ab"])
        for kind in ("end", "crossing"):
            self.gives(False, is_telling, right, NONE, (sizes.cycle(25), kind))
            self.fails((TooMany, 2000), is_telling, more, NONE, (sizes.cycle(29), kind))
            self.fails((TooMany, 2000), is_telling, NONE, more, (sizes.cycle(29), kind))
        for value in ((sizes.cycle(30), "no"), (MID, "end"), None, (sizes.cycle(30),)):
            self.gives(False, is_telling, first, NONE, value)
        self.gives(False, is_telling, NONE, NONE, (sizes.cycle(30), "end"))
        self.gives(True, is_telling, LOUD, NONE, (make_machine(1, (0, ("send", "z", "x"), 0)), "crossing"))

    def test_errors(self):
        for function in JOINED + (paired_network,):
            for value in unlike(spec.machine):
                self.fails(InvalidMachine, function, value, MID)
                self.fails(InvalidMachine, function, A, value)
            self.fails(InvalidOperation, function, MID, 0)
            self.fails(InvalidOperation, function, A, MID)
            self.fails(InvalidOperation, function, many.machine_2001(), MID)
            self.fails(InvalidMachine, function, many.machine_2001(), 0)
        for function in (is_likeness, is_telling):
            for value in unlike(spec.machine):
                self.fails(InvalidMachine, function, value, MID, None)
                self.fails(InvalidMachine, function, A, value, None)
            self.fails(InvalidOperation, function, MID, 0, None)
            self.fails(InvalidOperation, function, A, MID, None)


def ring_steps(lengths):
    """Transitions of rings of sends of x, into the first states of which steps lead from state 0."""
    found, first = [], 1
    for length in lengths:
        found.append((0, ("step",), first))
        found += [(first + at, ("send", "p", "x"), first + (at + 1) % length) for at in range(length)]
        first += length
    return found


if __name__ == "__main__":
    unittest.main()
