"""[13.1], [13.2] and halflink.branches.replaced."""

import random
import unittest

from halflink.branches.branches import Branch
from halflink.branches.replaced import carried_run, fits_branch, is_carried, rest_of, with_branch
from halflink.errors import (
    Crossed, InvalidConfiguration, InvalidMachine, InvalidNetwork, InvalidOperation, InvalidRun, TooMany, UnknownName,
)
from halflink.machines.machines import make_machine, renamed_machine
from halflink.networks.configurations import configuration_with
from halflink.networks.networks import make_network, with_machine
from tests import many, plainbranch, plaintalk, spec
from tests.branchcases import BRANCHES, CHAIN, SHORT, counting, finite_network, linked, stepping
from tests.case import Case
from tests.plaintalk import changed, random_single
from tests.samples import A, B, CALL, MEET, MID, NONE, Q, WIDE, random_start
from tests.walks import is_one_way
from tests.wrong import ALL, FEW, spoiled, unlike

WALK = (("a", 0), ("m", 0), ("m", 1), ("b", 0), ("b", 1), ("m", 2), ("m", 3), ("a", 1))


def walk(seed, network, length):
    """A random run that crosses no link."""
    rng = random.Random(seed)
    run, conf = (), spec.first(network)
    for _ in range(length):
        found = spec.steps(network, conf)
        kept = {move: found[move] for move in found if not spec.crossed(network, found[move])}
        if not kept:
            break
        run += (rng.choice(sorted(kept)),)
        conf = kept[run[-1]]
    return run


def fits(network, one, other, machine):
    """Whether a machine fits, by the words up to a length that is enough for small machines."""
    branch = plainbranch.Plain(network, one, other)
    words = [word for word in branch.words(5) if branch.careful(word)]
    return words == sorted(plaintalk.careful(plaintalk.words(machine, 5)), key=words_order) and not any(
        branch.risky(word) for word in words)


def words_order(word):
    return (len(word), word)


class Networks(Case):
    def test_document(self):
        going = configuration_with(CHAIN, {("m", "b"): ("go",)}, a=1, m=2)
        self.same([with_branch(CHAIN, "a", "m", B)[1], rest_of(CHAIN, "a", "m", going)],
                  [(("a", "m"),), ((1,), ((), ()))])
        self.same(carried_run(SHORT, "a", "m", (("a", 0), ("m", 0), ("m", 1)), CHAIN),
                  (("a", 0), ("m", 0), ("m", 1), ("b", 0), ("b", 1), ("m", 2), ("m", 3)))

    def test_with_branch(self):
        self.gives(SHORT, with_branch, CHAIN, "a", "m", B)
        self.gives(SHORT, with_branch, CHAIN, "a", "m", renamed_machine(B, a="zz"))
        self.gives(make_network(("b", "m"), b=NONE, m=renamed_machine(B, a="b")), with_branch,
                   make_network(("a", "m"), ("b", "m"), a=NONE, b=NONE, m=NONE), "b", "m", B)
        wide = with_branch(WIDE, "west", "mid", Q)
        self.same(wide[1], (("left", "right"), ("mid", "west")))
        self.same([name for name, _ in wide[0]], ["left", "mid", "right", "west", "zero"])
        self.same(dict(wide[0])["mid"], renamed_machine(Q, p="west"))
        for seed, (network, one, other) in enumerate(BRANCHES):
            machine = random_single(seed)
            new = with_branch(network, one, other, machine)
            self.gives(new, with_branch, network, one, other, machine)
            self.assertTrue(spec.network(new))
            machines, links = plainbranch.without(network, one, other)
            self.same(dict(new[0])[other],
                      renamed_machine(machine, **{near: one for near in spec.neighbours(machine)}))
            self.same([pair for pair in new[0] if pair[0] != other], machines)
            self.same(sorted(links + [tuple(sorted((one, other)))]), list(new[1]))
            # What was replaced once can be replaced by what was there, if that is one machine.
            if plainbranch.names(network, one, other) == (other,):
                self.gives(network, with_branch, new, one, other, dict(network[0])[other])

    def test_rest_of(self):
        for seed, (network, one, other) in enumerate(BRANCHES):
            for conf in (spec.first(network), random_start(seed, network), random_start(seed + 1000, network)):
                self.gives(plainbranch.rest(network, one, other, conf), rest_of, network, one, other, conf)
        self.same(rest_of(WIDE, "west", "mid", random_start(1, WIDE))[0][2:], random_start(1, WIDE)[0][4:])


class Fitting(Case):
    def test_by_words(self):
        seen = {}
        for seed, case in enumerate(BRANCHES):
            branch = Branch.over(*case)
            tried = [random_single(seed)]
            if len(branch.careful()) <= 12:
                least = branch.careful().machine("p")
                tried += [least, changed(seed, least), changed(seed + 1, least)]
            for machine in tried:
                wanted = fits(*case, machine)
                seen[wanted, branch.first_risk is None] = seen.get((wanted, branch.first_risk is None), 0) + 1
                self.gives(wanted, fits_branch, *case, machine)
        self.assertGreater(min(seen.values()), 5)
        self.assertEqual(len(seen), 4)

    def test_risky_words(self):
        # A take that is not careful may be risky; the careful words may not.
        rash = make_network(
            ("a", "m"), ("b", "m"), a=NONE,
            m=make_machine(4, (0, ("send", "a", "x"), 1), (0, ("take", "a", "y"), 2), (1, ("take", "b", "t"), 1),
                           (2, ("send", "b", "k"), 3)),
            b=make_machine(2, (0, ("send", "m", "t"), 1)))
        self.gives(True, fits_branch, rash, "a", "m", make_machine(2, (0, ("send", "zz", "x"), 1)))
        self.gives(True, fits_branch, rash, "a", "m",
                   make_machine(2, (0, ("send", "zz", "x"), 1), (0, ("take", "zz", "z"), 1)))
        self.gives(False, fits_branch, rash, "a", "m", NONE)
        network = counting(2, "x")
        self.gives(False, fits_branch, network, "a", "m", make_machine(1, (0, ("send", "a", "x"), 0)))

    def test_the_same_is_reached(self):
        # [13.2], against the configurations of small networks.
        counts = {}
        for seed in range(150):
            for case in linked(finite_network(seed)):
                network, one, other = case
                least = Branch.over(*case).careful().machine("p")
                machine = changed(seed, least[:1] + ((),) + least[2:])
                old = plainbranch.uncrossed(network, 2000)
                if old is None or not fits_branch(network, one, other, machine):
                    continue
                new = with_branch(network, one, other, machine)
                one_way = is_one_way(network, None)
                self.assertIs(one_way, is_one_way(new, None))
                found = plainbranch.uncrossed(new, 2000)
                if one_way and found is not None:
                    self.assertEqual({plainbranch.rest(*case, conf) for conf in old},
                                     {plainbranch.rest(new, one, other, conf) for conf in found})
                key = (one_way, len(plainbranch.names(*case)) > 1)
                counts[key] = counts.get(key, 0) + 1
        self.assertGreater(min(counts.values()), 5)
        self.assertEqual(len(counts), 4)


class Carried(Case):
    def targets(self, seed, case):
        """Networks with the same rest: the least machines, and branches of other networks under other names."""
        network, one, other = case
        branch = Branch.over(*case)
        found = [network, with_branch(network, one, other, random_single(seed))]
        for made in (branch, branch.careful()):
            if len(made) <= 8 and len(made.machine("p")[2]) <= 30:
                found.append(with_branch(network, one, other, made.machine("p")))
        free = [name for name in ("qa", "qb") if len(found[-1][0]) < 5]
        if free:
            # A relay in the place of the root, with the machine behind it.
            machine = dict(found[-1][0])[other]
            names = {name: table for name, table in found[-1][0]}
            size, finals, transitions = machine
            kept = [(before, ("step",) if deed[0] == "step" else deed, behind) for before, deed, behind in transitions]
            names[other] = make_machine(size, *kept, (0, ("send", "qa", "x"), 0), (0, ("take", "qa", "y"), 0),
                                        finals=finals)
            names["qa"] = make_machine(2, (0, ("take", other, "x"), 1), (1, ("send", other, "y"), 0))
            found.append(make_network(*found[-1][1], (other, "qa"), **names))
        return found

    def test_there_and_back(self):
        seen = {True: 0, False: 0}
        for seed, case in enumerate(BRANCHES[::2]):
            network, one, other = case
            for at, target in enumerate(self.targets(seed, case)):
                run = walk(seed + at, network, 12)
                plainly = plainbranch.Plain(target, one, other)
                moves, signs = plainbranch.told(network, one, other, run)
                word = tuple(sign for told, _, _ in moves for sign in told) + tuple(signs)
                found = carried_run(network, one, other, run, target)
                self.gives(found, carried_run, network, one, other, run, target)
                self.assertIs(found is not None, plainly.has(word))
                seen[found is not None] += 1
                if found is None:
                    self.gives(False, is_carried, network, one, other, run, target, run)
                    continue
                self.assertTrue(plainbranch.carried(network, one, other, run, target, found))
                self.gives(True, is_carried, network, one, other, run, target, found)
                ends = [spec.configurations(net, moves, spec.first(net))[-1]
                        for net, moves in ((network, run), (target, found))]
                self.same(plainbranch.rest(network, one, other, ends[0]), plainbranch.rest(target, one, other, ends[1]))
                back = carried_run(target, one, other, found, network)
                self.assertTrue(plainbranch.carried(target, one, other, found, network, back))
                self.gives(True, is_carried, target, one, other, found, network, run)
        self.assertGreater(min(seen.values()), 75)

    def test_runs_of_other_makers(self):
        seen = {True: 0, False: 0}
        for seed, case in enumerate(BRANCHES[::5]):
            network, one, other = case
            rng = random.Random(seed)
            for target in self.targets(seed, case):
                run = walk(seed, network, 8)
                found = carried_run(network, one, other, run, target)
                if found is None:
                    continue
                moves = [(name, index) for name, machine in target[0] for index in range(len(machine[2]))]
                values = [run, found[:-1]]
                for _ in range(8):
                    at, far = rng.randint(0, len(found)), rng.randint(0, len(found))
                    if moves:
                        values.append(found[:at] + (rng.choice(moves),) + found[at:])
                    values.append(found[:at] + found[at + 1:])
                    values.append(found[:at] + found[at + 1:far] + found[at:at + 1] + found[far:])
                for value in values:
                    wanted = plainbranch.carried(network, one, other, run, target, value)
                    seen[wanted] += value != found
                    self.gives(wanted, is_carried, network, one, other, run, target, value)
        self.assertGreater(min(seen.values()), 150)

    def test_places_between_the_rest(self):
        network = make_network(
            ("a", "m"), ("x", "y"), a=make_machine(1, (0, ("take", "m", "x"), 0)), m=make_machine(
                1, (0, ("send", "a", "x"), 0), (0, ("step",), 0)),
            x=make_machine(1, (0, ("send", "y", "x"), 0)), y=make_machine(1, (0, ("take", "x", "x"), 0)))
        run = (("x", 0), ("m", 1), ("m", 0), ("y", 0), ("m", 0), ("a", 0))
        for value, wanted in (
            (run, True), (run[:1] + run[2:], True), (run + (("m", 1),) * 3, True),
            ((("m", 1), ("m", 1)) + run, True), (run[:3] + run[4:5] + run[3:4] + run[5:], False),
            (run[:4] + run[5:] + run[4:5], False), (run[2:3] + run[:2] + run[3:], False), (run[:-1], False),
            (run + (("x", 0),), False), (run[:3] + run[3:4] + (("m", 1),) + run[4:], True),
        ):
            self.same(plainbranch.carried(network, "a", "m", run, network, value), wanted)
            self.gives(wanted, is_carried, network, "a", "m", run, network, value)
        self.gives(run[:1] + run[2:], carried_run, network, "a", "m", run, network)

    def test_links_that_are_crossed(self):
        # Both queues of an inner link have letters in the value, or both of the outer one.
        target = make_network(
            ("a", "m"), ("b", "m"), a=NONE, m=make_machine(1, (0, ("send", "b", "x"), 0), (0, ("send", "a", "x"), 0)),
            b=make_machine(1, (0, ("send", "m", "x"), 0)))
        run = (("m", 0),)
        self.same(dict(target[0])["m"][2][0][1], ("send", "a", "x"))
        self.gives(True, is_carried, target, "a", "m", run, target, run)
        self.gives(False, is_carried, target, "a", "m", run, target, (("m", 1), ("b", 0), ("m", 0)))
        self.gives(True, is_carried, target, "a", "m", run, target, (("m", 1), ("m", 0)))
        self.gives(True, is_carried, target, "a", "m", run, target, (("b", 0), ("m", 0)))

    def test_words_that_the_target_does_not_have(self):
        target = with_branch(CHAIN, "a", "m", make_machine(2, (0, ("take", "a", "go"), 1)))
        self.gives(None, carried_run, CHAIN, "a", "m", WALK, target)
        self.gives((("a", 0), ("m", 0)), carried_run, CHAIN, "a", "m", WALK[:6], target)
        self.gives(None, carried_run, CHAIN, "a", "m", WALK[:7], target)
        self.gives((), carried_run, CHAIN, "a", "m", (), target)

    def test_long_runs(self):
        run = WALK * 400
        found = carried_run(CHAIN, "a", "m", run, SHORT)
        self.same(found, (("a", 0), ("m", 0), ("m", 1), ("a", 1)) * 400)
        back = carried_run(SHORT, "a", "m", found, CHAIN)
        self.gives(True, is_carried, SHORT, "a", "m", found, CHAIN, back)
        self.gives(True, is_carried, SHORT, "a", "m", found, CHAIN, run)
        self.gives(False, is_carried, SHORT, "a", "m", found, CHAIN, run[:-1])
        self.gives(False, is_carried, SHORT, "a", "m", found, CHAIN, run + run[:1])
        self.fails((InvalidRun, 3200), carried_run, CHAIN, "a", "m", run + (("a", 1),), SHORT)

    def test_every_spoiled_part(self):
        run = WALK[:7]
        for value in list(spoiled(run, FEW + ("m", ("m", 0)))) + list(ALL):
            self.gives(plainbranch.carried(CHAIN, "a", "m", run, CHAIN, value), is_carried, CHAIN, "a", "m", run, CHAIN,
                       value)
        for value in ((("a", 0), ("m", 0), ("m", True)), (("a", False), ("m", 0), ("m", 1)), [("a", 0)], None):
            self.gives(False, is_carried, CHAIN, "a", "m", run, SHORT, value)


class Errors(Case):
    def calls(self):
        return (
            (with_branch, (None,)), (rest_of, (None,)), (fits_branch, (None,)), (carried_run, (None, None)),
            (is_carried, (None, None, None)), (with_branch, (B,)), (carried_run, ((), CHAIN)),
        )

    def test_networks_and_names(self):
        for function, rest in self.calls():
            for value in unlike(spec.network):
                self.fails(InvalidNetwork, function, value, 0, 0, *rest)
            for value in unlike(lambda part: part in ("a", "b", "m"), ALL + ("c",)):
                self.fails((UnknownName, value), function, CHAIN, value, 0, *rest)
                self.fails((UnknownName, value), function, CHAIN, "a", value, *rest)
            for one, other in (("a", "b"), ("b", "a"), ("m", "m"), ("a", "a")):
                self.fails(InvalidOperation, function, CHAIN, one, other, *rest)

    def test_machines(self):
        for function in (with_branch, fits_branch):
            for value in unlike(spec.machine):
                self.fails(InvalidMachine, function, CHAIN, "a", "m", value)
            self.fails(InvalidOperation, function, CHAIN, "a", "m", MID)
            self.fails(InvalidOperation, function, CHAIN, "a", "b", MID)
        large = stepping(NONE, 3, 23, 29)
        self.fails(InvalidMachine, fits_branch, large, "a", "m", None)
        self.fails(InvalidOperation, fits_branch, large, "a", "m", MID)
        self.fails((TooMany, 2000), fits_branch, large, "a", "m", many.machine_rings(2))
        self.fails((TooMany, 2000), fits_branch, CHAIN, "a", "m", many.machine_2001())
        self.fails((TooMany, 200), fits_branch, CHAIN, "a", "m", many.machine_rings(2))
        wide = make_network(("m", "p"), p=NONE, m=many.machine_rings(2))
        self.fails((TooMany, 200), fits_branch, wide, "p", "m", many.machine_2001())
        self.gives(True, fits_branch, stepping(NONE, 20, 10, 10), "a", "m", NONE)
        # A machine is put there whatever the branch is.
        self.gives(make_network(("a", "m"), a=NONE, m=NONE), with_branch, large, "a", "m", NONE)

    def test_configurations(self):
        going = configuration_with(CHAIN, {("m", "b"): ("go",)}, a=1, m=2)
        for value in unlike(lambda part: spec.configuration(CHAIN, part), ALL + tuple(spoiled(going))):
            self.fails(InvalidConfiguration, rest_of, CHAIN, "a", "m", value)

    def test_runs_and_targets(self):
        for function, rest in ((carried_run, ()), (is_carried, (None,))):
            for value in list(ALL) + [list(WALK), WALK[1:], WALK + (("b", 0),), (("a", False),), WALK[:1] * 2]:
                at = spec.fault(CHAIN, value, spec.first(CHAIN))
                if at is not None:
                    self.fails((InvalidRun, at), function, CHAIN, "a", "m", value, None, *rest)
            crossed = (("q", 0), ("p", 0), ("q", 0))
            self.fails((InvalidRun, 2), function, MEET, "q", "p", crossed, None, *rest)
            self.fails((Crossed, crossed[:2]), function, MEET, "q", "p", crossed[:2], None, *rest)
            self.fails((Crossed, crossed[1::-1]), function, MEET, "p", "q", crossed[1::-1], None, *rest)
            for value in unlike(spec.network):
                self.fails(InvalidNetwork, function, CHAIN, "a", "m", WALK, value, *rest)
            other = [
                MEET, CALL, make_network(("a", "b"), ("b", "m"), a=NONE, b=NONE, m=NONE), with_machine(SHORT, "zz", NONE),
                make_network(("a", "m"), a=NONE, m=B),
                make_network(("a", "m"), ("a", "b"), a=dict(SHORT[0])["a"], b=NONE, m=B),
                with_machine(SHORT, "a", renamed_machine(A, b="m")[:1] + ((),) + renamed_machine(A, b="m")[2:]),
            ]
            for target in other:
                self.fails(InvalidOperation, function, CHAIN, "a", "m", WALK, target, *rest)
            self.fails(InvalidOperation, function, CHAIN, "a", "m", (), MEET, *rest)

    def test_other_links_of_the_rest(self):
        network = make_network(("a", "m"), ("a", "u"), ("u", "v"), a=NONE, m=NONE, u=NONE, v=NONE)
        for links in ((("a", "u"), ("a", "v")), (("a", "u"),), (("u", "v"),), (("a", "v"), ("u", "v"))):
            target = make_network(("a", "m"), *links, a=NONE, m=NONE, u=NONE, v=NONE)
            for function, rest in ((carried_run, ()), (is_carried, ((),))):
                self.fails(InvalidOperation, function, network, "a", "m", (), target, *rest)
        # In the target, the machine v belongs to the branch; then the rest lacks it.
        target = make_network(("a", "m"), ("a", "u"), ("m", "v"), a=NONE, m=NONE, u=NONE, v=NONE)
        self.fails(InvalidOperation, carried_run, network, "a", "m", (), target)
        self.gives((), carried_run, network, "a", "m", (), network)
        # A machine v of the branch is no machine of the rest, whatever it is.
        other = make_network(("a", "m"), ("a", "u"), a=NONE, m=NONE, u=NONE)
        self.gives((), carried_run, target, "a", "m", (), other)

    def test_many_views_of_the_target(self):
        root = make_machine(1, (0, ("send", "a", "x"), 0))
        small, large = stepping(root, 20, 10, 10), stepping(root, 3, 23, 29)
        run = (("m", 0),)
        self.gives(run, carried_run, large, "a", "m", run, small)
        self.fails((TooMany, 2000), carried_run, small, "a", "m", run, large)
        self.fails((TooMany, 2000), carried_run, small, "a", "m", (), large)
        self.gives(True, is_carried, small, "a", "m", run, large, (("b", 0), ("m", 0)))
        self.fails(InvalidOperation, carried_run, small, "a", "m", run, MEET)


if __name__ == "__main__":
    unittest.main()
