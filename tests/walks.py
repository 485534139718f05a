"""Random runs, and networks with starts, for the tests of stages 5 to 9."""

import random

from halflink.networks.configurations import configuration_with
from tests import plain, spec
from tests.samples import CALL, FLOW, MEET, NETWORKS, TALKERS, WIDE, random_network, random_start

GOING = configuration_with(CALL, {("a", "b"): ("go",)}, a=1)
LETTERS = configuration_with(TALKERS, {("u", "v"): ("x", "y", "z")})
BACK = configuration_with(TALKERS, {("v", "u"): ("y", "y")}, v=1)
BOTH_WAYS = configuration_with(TALKERS, {("u", "v"): ("x",), ("v", "u"): ("y", "x")})
TWENTY = configuration_with(FLOW, {("c", "d"): ("x",) * 20})
ALL_WIDE = configuration_with(
    WIDE, {("west", "mid"): ("go", "go"), ("east", "mid"): ("ok", "no"), ("left", "right"): ("x",) * 3}, mid=2, east=1)

STARTS = [(network, None) for network in NETWORKS] + [
    (CALL, GOING), (TALKERS, LETTERS), (TALKERS, BACK), (WIDE, ALL_WIDE), (FLOW, TWENTY),
    (FLOW, configuration_with(FLOW, {("d", "c"): ("z",)})),
    (FLOW, configuration_with(FLOW, {("c", "d"): ("x", "y", "x")})),
    (MEET, configuration_with(MEET, {("p", "q"): ("x", "x")})),
] + [(random_network(seed), None) for seed in range(200, 240)] + [
    (random_network(seed), random_start(seed, random_network(seed), crossed=False)) for seed in range(240, 320)
]


def walk(seed, network, start, length):
    """A random run with at most so many moves, and the configurations on it."""
    rng = random.Random(seed)
    run, passed = [], [start]
    for _ in range(length):
        found = spec.steps(network, passed[-1])
        if not found:
            break
        run.append(rng.choice(sorted(found)))
        passed.append(found[run[-1]])
    return tuple(run), passed


def is_one_way(network, start):
    first = plain.start_of(network, start)
    return not spec.crossed(network, first) and not any(
        spec.exposed(network, view) for view in plain.views(network, first))


ONE_WAY = [(network, start) for network, start in STARTS if is_one_way(network, start)]
CROSSING = [(network, start) for network, start in STARTS if not is_one_way(network, start)]
