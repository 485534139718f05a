"""Networks with two linked machines, for the tests of stages 12 and 13."""

import random

from halflink.machines.machines import machine_from, make_machine, renamed_machine
from halflink.networks.networks import make_network, network_from
from tests import spec
from tests.samples import A, B, NETWORKS, NONE, WIDE, random_network
from tests.sizes import cycle

M = make_machine(
    4, (0, ("take", "a", "go"), 1), (1, ("send", "b", "go"), 2), (2, ("take", "b", "ok"), 3),
    (3, ("send", "a", "ok"), 0), finals=(0,))
CHAIN = make_network(("a", "m"), ("b", "m"), a=renamed_machine(A, b="m"), b=renamed_machine(B, a="m"), m=M)
SHORT = make_network(("a", "m"), a=renamed_machine(A, b="m"), m=B)

# A branch with a branch, with further trees beside it: w - m - b - e, x - y, z.
DEEP = make_network(
    ("w", "m"), ("m", "b"), ("b", "e"), ("x", "y"),
    w=make_machine(2, (0, ("send", "m", "x"), 1), (0, ("take", "m", "y"), 0), (1, ("step",), 0)),
    m=make_machine(3, (0, ("take", "w", "x"), 1), (1, ("send", "b", "x"), 2), (2, ("take", "b", "y"), 0),
                   (0, ("send", "w", "y"), 0)),
    b=make_machine(3, (0, ("take", "m", "x"), 1), (1, ("step",), 2), (1, ("send", "e", "x"), 2),
                   (2, ("send", "m", "y"), 0), (0, ("take", "e", "y"), 2)),
    e=make_machine(2, (0, ("take", "b", "x"), 1), (1, ("send", "b", "y"), 0), (1, ("step",), 0)),
    x=make_machine(1, (0, ("send", "y", "x"), 0)),
    y=make_machine(2, (0, ("take", "x", "x"), 1), (1, ("step",), 0)),
)


def linked(network):
    return [(network, one, other) for one, other in spec.channels(network)]


def risky_network(seed):
    """A chain in which the root of a branch, m, talks to both sides, so that many of its words are risky."""
    rng = random.Random(seed)
    size = rng.randint(2, 3)

    def rows(near, many):
        deeds = [(word, other, letter) for word in ("send", "take") for other in near for letter in "xy"] + [("step",)]
        return tuple((rng.randrange(size), rng.choice(deeds), rng.randrange(size)) for _ in range(many))

    return network_from({
        "a": NONE, "m": machine_from(size, rows("aab", rng.randint(3, 8)), ()),
        "b": machine_from(size, rows("m", rng.randint(1, 4)), ())}, (("a", "m"), ("b", "m")))


# With these numbers, some words are risky and others are not.
RISKY_SEEDS = (
    5, 16, 17, 18, 53, 98, 99, 102, 129, 151, 168, 171, 181, 190, 236, 241, 257, 270, 277, 298, 301, 339, 356, 366, 367,
    381, 469, 481, 487, 490, 493, 497, 518, 534, 555, 563, 574, 578, 581, 606, 617, 625, 642, 665, 686, 691, 706, 746,
    800, 817, 865, 882, 886, 907, 923, 928, 939, 957, 965, 969, 977, 992, 995, 1045, 1076, 1078, 1082, 1089, 1096, 1138,
)

BRANCHES = [case for network in (CHAIN, SHORT, DEEP) + NETWORKS for case in linked(network)] + [
    case for seed in range(400, 480) for case in linked(random_network(seed, 5))] + [
    (risky_network(seed), "a", "m") for seed in RISKY_SEEDS]


def counting(many, letters, far="a"):
    """A network in which a word of m is risky from one more sign on than b has takes; all words have these letters."""
    sends = [(0, ("send", far, letter), 1) for letter in letters]
    takes = [(at, ("take", "m", "t"), at + 1) for at in range(many)]
    return make_network(
        (far, "m"), ("b", "m"), m=make_machine(2, *sends, (1, ("send", "b", "t"), 0)),
        b=make_machine(many + 1, *takes, (many, ("send", "m", "z"), many)), **{far: NONE})


def stepping(root, *sizes):
    """The branch of a root and of machines that only make steps, one behind another."""
    names = ["b", "c", "d", "e"][:len(sizes)]
    links = [("a", "m"), *zip(["m"] + names, names)]
    return make_network(*links, a=NONE, m=root, **{name: cycle(size) for name, size in zip(names, sizes)})


def finite_network(seed):
    """A network in which each machine sends only a few letters, so that it often has few configurations."""
    rng = random.Random(seed)
    names = rng.sample(["a", "bb", "c", "m", "zz"], rng.randint(2, 4))
    links = [(names[at], rng.choice(names[:at])) for at in range(1, len(names))]
    machines = {}
    for name in names:
        near = [end for link in links if name in link for end in link if end != name]
        rows = []
        for _ in range(rng.randint(1, 5)):
            before = rng.randrange(3)
            deed = rng.choice([("step",)] + [
                (word, other, letter) for word in ("send", "take", "take") for other in near for letter in "xy"])
            # Sends lead on to later states alone.
            behind = rng.randint(before + 1, 3) if deed[0] == "send" else rng.randint(before, 3)
            rows.append((before, deed, behind))
        machines[name] = machine_from(4, tuple(rows), (3,))
    return network_from(machines, tuple(links))


WIDE_CASES = linked(WIDE)
