"""Networks for the tests, those of the document first."""

import random

from halflink.machines.machines import machine_from, make_machine
from halflink.networks.networks import make_network, network_from

A = make_machine(2, (0, ("send", "b", "go"), 1), (1, ("take", "b", "ok"), 0), finals=(0,))
B = make_machine(2, (0, ("take", "a", "go"), 1), (1, ("send", "a", "ok"), 0), finals=(0,))
CALL = make_network(("a", "b"), a=A, b=B)
D = make_machine(2, (0, ("take", "c", "x"), 0), (0, ("step",), 1), finals=(1,))
FLOW = make_network(("c", "d"), c=make_machine(1, (0, ("send", "d", "x"), 0)), d=D)
Q = make_machine(2, (0, ("send", "p", "y"), 1), (0, ("take", "p", "x"), 1))
MEET = make_network(("p", "q"), p=make_machine(2, (0, ("send", "q", "x"), 1)), q=Q)

NONE = (1, (), ())
LONELY = make_network(a=NONE)
STEPS = make_network(one=make_machine(3, (0, ("step",), 1), (0, ("step",), 2), (1, ("step",), 0)), two=NONE)

# A middle machine with two neighbours, a pair beside it, and one machine alone.
WEST = make_machine(2, (0, ("send", "mid", "go"), 1), (1, ("take", "mid", "ok"), 0), (1, ("step",), 1))
MID = make_machine(
    4,
    (0, ("take", "west", "go"), 1),
    (1, ("send", "east", "go"), 2),
    (2, ("take", "east", "no"), 3),
    (2, ("take", "east", "ok"), 3),
    (3, ("send", "west", "ok"), 0),
    finals=(0, 3),
)
EAST = make_machine(
    3,
    (0, ("take", "mid", "go"), 1),
    (1, ("send", "mid", "no"), 2),
    (1, ("send", "mid", "ok"), 0),
    (2, ("step",), 0),
    finals=(2,),
)
LEFT = make_machine(1, (0, ("send", "right", "x"), 0))
RIGHT = make_machine(1, (0, ("take", "left", "x"), 0))
ALONE = make_machine(2, (0, ("step",), 1), finals=(1,))
WIDE = make_network(
    ("west", "mid"), ("mid", "east"), ("right", "left"),
    west=WEST, mid=MID, east=EAST, left=LEFT, right=RIGHT, zero=ALONE,
)

# Both ends of a link send and take: letters of the start can be taken, and links are crossed.
BOTH = make_machine(
    2,
    (0, ("send", "v", "x"), 1),
    (0, ("take", "v", "y"), 0),
    (1, ("send", "v", "y"), 0),
    (1, ("take", "v", "x"), 1),
)
EITHER = make_machine(
    2,
    (0, ("send", "u", "y"), 1),
    (0, ("take", "u", "x"), 0),
    (1, ("step",), 0),
    (1, ("take", "u", "y"), 1),
)
TALKERS = make_network(("u", "v"), u=BOTH, v=EITHER)

# Names and letters that are also the words of deeds and acts.
WORDS = make_network(
    ("send", "take"), ("step", "take"),
    send=make_machine(2, (0, ("send", "take", "step"), 1), (1, ("take", "take", "send"), 0), (1, ("step",), 1)),
    take=make_machine(
        3, (0, ("take", "send", "step"), 1), (1, ("send", "send", "send"), 0), (1, ("send", "step", "take"), 2),
        (2, ("take", "step", "hand"), 0), (0, ("step",), 2),
    ),
    step=make_machine(2, (0, ("take", "take", "take"), 1), (1, ("send", "take", "hand"), 0), (1, ("step",), 0)),
)

NETWORKS = (CALL, FLOW, MEET, LONELY, STEPS, WIDE, TALKERS, WORDS)


def random_deeds(rng, near):
    deeds = [("step",)]
    for other in near:
        for word in ("send", "take"):
            deeds += [(word, other, letter) for letter in ("x", "y")]
    return [rng.choice(deeds) for _ in range(rng.randint(1, 5))]


def random_network(seed, most=4):
    """A network that only depends on the number; names stand in no order beside the links."""
    rng = random.Random(seed)
    names = rng.sample(["a", "bb", "c", "network", "start", "zz"], rng.randint(1, most))
    links = []
    for at in range(1, len(names)):
        if rng.random() < 0.85:
            links.append((names[at], rng.choice(names[:at])))
    machines = {}
    for name in names:
        near = [end for link in links if name in link for end in link if end != name]
        size = rng.randint(1, 3)
        rows = [(rng.randrange(size), deed, rng.randrange(size)) for deed in random_deeds(rng, near)]
        machines[name] = machine_from(size, tuple(rows), tuple(rng.sample(range(size), rng.randint(0, size))))
    return network_from(machines, tuple(links))


def random_start(seed, network, crossed=True):
    """A configuration with some letters; without crossing, one queue of each link is empty."""
    rng = random.Random(seed)
    states = tuple(rng.randrange(machine[0]) for _, machine in network[0])
    queues = {}
    for one, other in network[1]:
        queues[one, other] = tuple(rng.choice("xy") for _ in range(rng.choice((0, 0, 1, 2, 3))))
        queues[other, one] = tuple(rng.choice("xy") for _ in range(rng.choice((0, 0, 1, 2, 3))))
        if not crossed:
            queues[rng.choice(((one, other), (other, one)))] = ()
    return (states, tuple(queues[key] for key in sorted(queues)))
