"""Searches along acts. A graph is a list with the ways from each of its nodes, which are numbered.

The ways from a node are a list of pairs of an act and the node behind it.
"""

from halflink.errors import TooMany


def weight_of_act(act):
    """The number of moves of an act."""
    return 2 if act[0] == "hand" else 1


def explored(source, machines, times, limit):
    """All rows to which acts of some machines lead from the first row of a source, as a list, and their graph.

    An error is raised if so many times the number of rows is more than the limit.
    """
    numbers = {source.first: 0}
    rows = [source.first]
    ways = [[]]
    waiting = [0]
    while waiting:
        here = waiting.pop()
        found = ways[here]
        for act, behind in source.ways_from(rows[here], machines):
            number = numbers.get(behind)
            if number is None:
                number = len(rows)
                numbers[behind] = number
                rows.append(behind)
                ways.append([])
                waiting.append(number)
            found.append((act, number))
        if times * len(rows) > limit:
            raise TooMany(limit)
    return (rows, ways)


def least_weights(ways, first):
    """The least weight of a path from the first node to each node, and the node and the act before it on such a path.

    They stand in dicts under the nodes to which paths lead.
    """
    numbers, before, _ = weighed(lambda node: ways[node], first, is_last)
    return (numbers, before)


def is_last(_):
    """Whether a search ends at a node; one that goes to all nodes does not end at any."""
    return False


def nearest_path(ways_from, first, is_wanted):
    """A path of least weight from the first node to one that is wanted, or None."""
    _, before, found = weighed(ways_from, first, is_wanted)
    return None if found is None else path_to(before, found)


def weighed(ways_from, first, is_wanted):
    """The least weights, and the nodes and acts before, up to a nearest wanted node, and this node or None."""
    numbers = {first: 0}
    before = {}
    number = 0
    now, soon, later = [first], [], []
    while now or soon:
        for node in now:
            # A node that was found again with a smaller weight was gone on from already.
            if numbers[node] < number:
                continue
            if is_wanted(node):
                return (numbers, before, node)
            for act, behind in ways_from(node):
                weight = weight_of_act(act)
                if behind not in numbers or numbers[behind] > number + weight:
                    numbers[behind] = number + weight
                    before[behind] = (node, act)
                    if weight == 1:
                        soon.append(behind)
                    else:
                        later.append(behind)
        now, soon, later = soon, later, []
        number += 1
    return (numbers, before, None)


def path_to(before, node):
    """The path to a node, put together from the last act before each node."""
    acts = []
    while node in before:
        node, act = before[node]
        acts.append(act)
    return tuple(acts[::-1])


def finished_order(ways, first):
    """The list of the nodes to which ways lead from the first one, each behind all that are only reached through it."""
    met = {first: True}
    order = []
    waiting = [(first, 0)]
    while waiting:
        node, done = waiting.pop()
        if done == len(ways[node]):
            order.append(node)
            continue
        waiting.append((node, done + 1))
        behind = ways[node][done][1]
        if behind not in met:
            met[behind] = True
            waiting.append((behind, 0))
    return order


def components(ways):
    """A place for each node, of a graph in which ways lead to all nodes from the first one.

    Nodes from which ways lead to one another have the same place, and nodes ahead of others have greater ones.
    """
    back = [[] for _ in ways]
    for node, row in enumerate(ways):
        for _, behind in row:
            back[behind].append(node)
    places = [None for _ in ways]
    place = 0
    for node in finished_order(ways, 0)[::-1]:
        if places[node] is None:
            mark_component(back, node, places, place)
            place += 1
    return places


def mark_component(back, node, places, place):
    """Give a place to all nodes from which ways lead to this one and that have none yet."""
    places[node] = place
    waiting = [node]
    while waiting:
        here = waiting.pop()
        for other in back[here]:
            if places[other] is None:
                places[other] = place
                waiting.append(other)
