"""Networks with exactly so many views."""

from halflink.machines.machines import make_machine
from halflink.networks.networks import make_network


def cycle(size):
    """A machine with so many states, all of which are reached by steps."""
    return make_machine(size, *[(state, ("step",), (state + 1) % size) for state in range(size)])


MUTE = make_machine(1)
PUSH = make_machine(1, (0, ("send", "d", "x"), 0))

# 2000 = 20 * 10 * 10 and 2001 = 3 * 23 * 29.
VIEWS_2000 = make_network(a=cycle(20), b=cycle(10), e=cycle(10))
VIEWS_2001 = make_network(a=cycle(3), b=cycle(23), e=cycle(29))
LINKED_2000 = make_network(("a", "b"), ("b", "e"), a=cycle(20), b=cycle(10), e=cycle(10))
LINKED_2001 = make_network(("a", "b"), ("b", "e"), a=cycle(3), b=cycle(23), e=cycle(29))

# A link over which c sends without end has two views: it is free or held. 1000 * 2 = 2000.
FLOW_2000 = make_network(("c", "d"), a=cycle(25), b=cycle(20), c=PUSH, d=cycle(2))

# Four views of the pair, one of them exposed: 4 * 20 * 25 = 2000.
ONCE = make_machine(2, (0, ("send", "q", "x"), 1))
MEET_2000 = make_network(
    ("p", "q"), a=cycle(20), b=cycle(25), p=ONCE,
    q=make_machine(2, (0, ("send", "p", "y"), 1), (0, ("take", "p", "x"), 1)))
# Three views of the pair: free, held by p, held by q. 3 * 23 * 29 = 2001.
MEET_2001 = make_network(
    ("p", "q"), a=cycle(23), b=cycle(29), p=ONCE, q=make_machine(1, (0, ("send", "p", "y"), 0)))

# The first post exposes; only behind it p goes through many states. 31 * 8 * 9 = 2232.
BEHIND = make_network(
    ("p", "q"), a=cycle(8), b=cycle(9),
    p=make_machine(30, (0, ("send", "q", "x"), 1), *[(state, ("step",), state + 1) for state in range(1, 29)]),
    q=make_machine(1, (0, ("send", "p", "y"), 0)))
