"""Ways from view to view: the acts that lead on, looked up by states, and searches along them.

A source is an object with the attribute first, a node, and with the methods is_node and ways_from. The ways from a node
are a list of pairs of an act and the node behind it.
"""

from halflink.errors import TooMany
from halflink.networks.configurations import queue_in
from halflink.networks.networks import names_in
from halflink.runs.runs import replaced
from halflink.values import is_ascending
from halflink.views.views import is_view_from, linked_at, other_end, rest_hold, view_of_start


class ViewWays:
    """The source whose nodes are the views of a network from an uncrossed start."""

    def __init__(self, network, start):
        self.network = network
        self.start = start
        self.first = view_of_start(network, start)
        self._names = names_in(network)
        self._deeds = [deeds_by_state(network, name, machine) for name, machine in network[0]]
        self._rests = [rests_of(network, start, link) for link in network[1]]

    def is_node(self, value):
        """Whether the value is a view."""
        return is_view_from(self.network, value, self.start)

    def ways_from(self, view):
        """The possible acts, and the views behind them."""
        states, holds = view
        found = []
        for at, state in enumerate(states):
            for deed in self._deeds[at][state]:
                if deed[1] == "send":
                    found.extend(self._sends_from(view, at, deed))
                elif deed[1] == "step":
                    act = ("step", self._names[at], deed[0])
                    found.append((act, (replaced(states, at, deed[5]), holds)))
                else:
                    found.extend(self._takes_from(view, at, deed))
        return found

    def _takes_from(self, view, at, deed):
        """The take of a letter of the start by this deed of a machine, if it is possible."""
        index, _, link, far, letter, behind = deed
        states, holds = view
        hold = holds[link]
        if hold == () or hold[2] == 0 or hold[:2] != (self._names[far], letter):
            return []
        rest = self._rests[link][hold[2] - 1]
        return [(("take", self._names[at], index), (replaced(states, at, behind), replaced(holds, link, rest)))]

    def _sends_from(self, view, at, deed):
        """The post and the hands by this deed of a machine, if they are possible."""
        index, _, link, far, letter, behind = deed
        states, holds = view
        name, hold = self._names[at], holds[link]
        if hold != () and hold[0] != name:
            return []
        moved = replaced(states, at, behind)
        posted = (name, letter, 0) if hold == () else (name, hold[1], 0)
        found = [(("post", name, index), (moved, replaced(holds, link, posted)))]
        if hold == ():
            for number, word, taken_link, _, taken, next_state in self._deeds[far][states[far]]:
                if word == "take" and taken_link == link and taken == letter:
                    act = ("hand", name, index, self._names[far], number)
                    found.append((act, (replaced(moved, far, next_state), holds)))
        return found

    def exposing_send(self, view):
        """A move that sends over a link which the other end holds, or None if the view is not exposed."""
        states, holds = view
        for at, state in enumerate(states):
            for index, word, link, far, _, _ in self._deeds[at][state]:
                if word == "send" and holds[link] != () and holds[link][0] == self._names[far]:
                    return (self._names[at], index)
        return None


def deeds_by_state(network, name, machine):
    """For each state of the machine, the list of its deeds there.

    Each has the index, the word, the places of the link and of the other machine, the letter, and the next state.
    """
    names = names_in(network)
    deeds = [[] for _ in range(machine[0])]
    for index, (before, deed, behind) in enumerate(machine[2]):
        if deed[0] == "step":
            deeds[before].append((index, "step", None, None, None, behind))
        else:
            word, other, letter = deed
            deeds[before].append((index, word, linked_at(network, name, other), names.index(other), letter, behind))
    return deeds


def rests_of(network, start, link):
    """The holds of a link with 0, 1 and more letters of the start, up to all of them."""
    for sender in link:
        queue = queue_in(network, start, sender, other_end(link, sender))
        if queue:
            return [rest_hold(sender, queue, left) for left in range(len(queue) + 1)]
    return [()]


def weight_of_act(act):
    """The number of moves of an act."""
    return 2 if act[0] == "hand" else 1


def explored(source, limit):
    """The ways from all nodes to which ways lead from the first one; raise an error for more nodes than the limit."""
    found = {source.first: []}
    waiting = [source.first]
    while waiting:
        node = waiting.pop()
        ways = source.ways_from(node)
        found[node] = ways
        for _, behind in ways:
            if behind not in found:
                found[behind] = []
                waiting.append(behind)
        if len(found) > limit:
            raise TooMany(limit)
    return found


def least_weights(ways, first):
    """The least weight of a path to each node, and the node and the act before it on such a path."""
    numbers, before, _ = weighed(lambda node: ways[node], first, is_last)
    return (numbers, before)


def is_last(_):
    """Whether a search ends at a node; one that goes to all nodes does not end at any."""
    return False


def nearest_path(ways_from, first, is_wanted):
    """A path of least weight from the first node to one that is wanted, or None."""
    _, before, found = weighed(ways_from, first, is_wanted)
    return None if found is None else path_to(before, found)


def weighed(ways_from, first, is_wanted):
    """The least weights, and the nodes and acts before, up to a nearest wanted node, and this node or None."""
    numbers = {first: 0}
    before = {}
    number = 0
    now, soon, later = [first], [], []
    while now or soon:
        for node in now:
            # A node that was found again with a smaller weight was gone on from already.
            if numbers[node] < number:
                continue
            if is_wanted(node):
                return (numbers, before, node)
            for act, behind in ways_from(node):
                weight = weight_of_act(act)
                if behind not in numbers or numbers[behind] > number + weight:
                    numbers[behind] = number + weight
                    before[behind] = (node, act)
                    if weight == 1:
                        soon.append(behind)
                    else:
                        later.append(behind)
        now, soon, later = soon, later, []
        number += 1
    return (numbers, before, None)


def path_to(before, node):
    """The path to a node, put together from the last act before each node."""
    acts = []
    while node in before:
        node, act = before[node]
        acts.append(act)
    return tuple(acts[::-1])


def are_closed(source, value):
    """Whether the value is an ascending tuple of nodes, the first one among them, from which no way leads out."""
    if not isinstance(value, tuple) or not all([source.is_node(part) for part in value]) or not is_ascending(value):
        return False
    inside = {part: True for part in value}
    if source.first not in inside:
        return False
    for part in value:
        for _, behind in source.ways_from(part):
            if behind not in inside:
                return False
    return True


def finished_order(ways, first):
    """The list of the nodes to which ways lead from the first one, each behind all that are only reached through it."""
    met = {first: True}
    order = []
    waiting = [(first, 0)]
    while waiting:
        node, done = waiting.pop()
        if done == len(ways[node]):
            order.append(node)
            continue
        waiting.append((node, done + 1))
        behind = ways[node][done][1]
        if behind not in met:
            met[behind] = True
            waiting.append((behind, 0))
    return order


def components(ways, first):
    """A number for each node: the same one for nodes from which ways lead to one another, and greater ones ahead."""
    back = {node: [] for node in ways}
    for node in ways:
        for _, behind in ways[node]:
            back[behind].append(node)
    places = {}
    place = 0
    for node in finished_order(ways, first)[::-1]:
        if node not in places:
            mark_component(back, node, places, place)
            place += 1
    return places


def mark_component(back, node, places, place):
    """Give a number to all nodes from which ways lead to this one and that have none yet."""
    places[node] = place
    waiting = [node]
    while waiting:
        here = waiting.pop()
        for other in back[here]:
            if other not in places:
                places[other] = place
                waiting.append(other)
