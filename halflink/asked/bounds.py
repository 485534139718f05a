"""Loads: how many letters can lie in the queues, each counted with the weight of its channel.

The load of the whole is the sum of the loads of its parts.
"""

from halflink.errors import InvalidOperation
from halflink.networks.configurations import check_configuration, crossed_in
from halflink.networks.networks import channels_in, check_network
from halflink.runs.runs import behind_moves, found_step, is_run_from
from halflink.values import is_row, is_whole, is_whole_from
from halflink.views.graphs import components, least_weights, path_to
from halflink.views.oneway import MAX_VIEWS, one_way_parts
from halflink.views.parts import numbered_rows, whole_of
from halflink.views.views import linked_at, run_in_acts, short_start
from halflink.views.ways import ViewWays

MAX_WEIGHT = 1000


def weights_in(network, weights):
    """The weights of the channels, for the parameter weights of a function."""
    many = 2 * len(network[1])
    if weights is None:
        return (1,) * many
    if not is_row(weights, many) or not all([is_whole_from(weight, 0, MAX_WEIGHT) for weight in weights]):
        raise InvalidOperation("not weights of the channels")
    return weights


def load_in(configuration, weights):
    """The load of what is known to be a configuration."""
    return sum([weight * len(queue) for weight, queue in zip(weights, configuration[1])])


def load_of(network, configuration, *, weights=None):
    """The load of the configuration."""
    check_network(network)
    check_configuration(network, configuration)
    return load_in(configuration, weights_in(network, weights))


def gains_of(network, weights):
    """How much each post and each take adds to the load, under these acts; all other acts add nothing."""
    gains = {}
    channels = channels_in(network)
    for name, machine in network[0]:
        for index, transition in enumerate(machine[2]):
            if transition[1][0] != "step":
                _, _, _, word, place, _ = found_step(network, channels, name, index)
                if word == "send":
                    gains["post", name, index] = weights[place]
                else:
                    gains["take", name, index] = -weights[place]
    return gains


def growing_way(ways, places, gains):
    """A node, an act that adds to the load, and the node behind it, from which ways lead back; or None."""
    for node, row in enumerate(ways):
        for act, behind in row:
            if gains.get(act, 0) > 0 and places[node] == places[behind]:
                return (node, act, behind)
    return None


def growing_paper(ways, found):
    """The load paper with a way that adds to the load and can be gone again and again."""
    node, act, behind = found
    _, before = least_weights(ways, 0)
    _, back = least_weights(ways, behind)
    return ("unbounded", run_in_acts(path_to(before, node)), run_in_acts((act,) + path_to(back, node)))


def greatest_numbers(ways, places, gains, begun):
    """The greatest load behind any path to each node, where no way can be gone again and again to add to it."""
    # Between nodes from which ways lead to one another, nothing is added, so all of them have the same number. The
    # place of the first node is 0.
    best = [None for _ in ways]
    best[0] = begun
    for place, node in sorted([(place, node) for node, place in enumerate(places)]):
        for act, behind in ways[node]:
            number = best[place] + gains.get(act, 0)
            there = places[behind]
            if best[there] is None or best[there] < number:
                best[there] = number
    return [best[place] for place in places]


def greatest_run(source, parts, numbers, gains):
    """A run that reaches the greatest of the numbers, a dict under the rows."""
    greatest = max(list(numbers.values()))
    wanted = min([row for row in numbers if numbers[row] == greatest])
    if wanted == source.first:
        return ()
    whole = whole_of(source, parts, MAX_VIEWS)
    rows = whole.all_rows
    # Along these ways, the load is as great as it can be.
    full = [
        [(act, behind) for act, behind in ways if numbers[rows[behind]] == numbers[row] + gains.get(act, 0)]
        for row, ways in zip(rows, whole.ways)
    ]
    _, before = least_weights(full, 0)
    return run_in_acts(path_to(before, rows.index(wanted)))


def placed_parts(network, start):
    """The source of the views, and the parts, each with the places of its rows in an order along its ways."""
    source, parts = one_way_parts(network, start)
    return (source, [(part, components(part.ways)) for part in parts])


def loads_of_start(network, start, weights, places):
    """The load of the start over the links with some places."""
    many = len(network[0])
    loads = [
        weight * len(queue)
        for channel, weight, queue in zip(channels_in(network), weights, start[1])
        if many + linked_at(network, channel[0], channel[1]) in places
    ]
    return sum(loads)


def numbers_of_parts(network, source, placed, weights):
    """For each part, the greatest loads of its rows; or None if the load of a part has no bound."""
    gains = gains_of(network, weights)
    found = []
    for part, places in placed:
        if growing_way(part.ways, places, gains) is not None:
            return None
        begun = loads_of_start(network, source.start, weights, part.places)
        found.append(greatest_numbers(part.ways, places, gains, begun))
    return found


def load_paper(network, *, weights=None, start=None):
    """Any load paper."""
    check_network(network)
    given = weights_in(network, weights)
    source, placed = placed_parts(network, start)
    gains = gains_of(network, given)
    parts = [part for part, _ in placed]
    numbers = numbers_of_parts(network, source, placed, given)
    if numbers is None:
        whole = whole_of(source, parts, MAX_VIEWS)
        return growing_paper(whole.ways, growing_way(whole.ways, components(whole.ways), gains))
    loads = {row: number for row, number in sorted([(row, number) for number, row in numbered_rows(parts, numbers)])}
    run = greatest_run(source, parts, loads, gains)
    return ("bounded", {source.view_of(row): loads[row] for row in loads}, run)


def greatest_in(network, source, placed, weights):
    """The greatest load, or None, for the source of the views and its parts."""
    numbers = numbers_of_parts(network, source, placed, weights)
    return None if numbers is None else sum([max(own) for own in numbers])


def greatest_load(network, *, weights=None, start=None):
    """The greatest load of all configurations that runs lead to, or None if there is none."""
    check_network(network)
    given = weights_in(network, weights)
    source, placed = placed_parts(network, start)
    return greatest_in(network, source, placed, given)


def queue_bounds(network, *, start=None):
    """The greatest length of each queue, or None for one without a bound, in the order of the channels."""
    check_network(network)
    source, placed = placed_parts(network, start)
    channels = range(2 * len(network[1]))
    rows = [tuple([1 if at == channel else 0 for at in channels]) for channel in channels]
    return tuple([greatest_in(network, source, placed, weights) for weights in rows])


def is_load_paper(network, value, *, weights=None, start=None):
    """Whether the value is a load paper."""
    check_network(network)
    given = weights_in(network, weights)
    first = short_start(network, start)
    if not is_row(value, 3):
        return False
    if value[0] == "unbounded":
        return is_growing(network, value[1], value[2], given, first)
    if value[0] != "bounded" or crossed_in(network, first):
        return False
    return is_bounded(network, value[1], given, first) and is_greatest(network, value[2], value[1], given, first)


def is_growing(network, run, loop, weights, start):
    """Whether the second value is a loop behind the first one, a run, that adds to the load and can be repeated."""
    if not isinstance(run, tuple) or not isinstance(loop, tuple) or not is_run_from(network, run + loop, start):
        return False
    before, behind = behind_moves(network, run, start), behind_moves(network, run + loop, start)
    if before[0] != behind[0] or load_in(behind, weights) <= load_in(before, weights):
        return False
    for old, new in zip(before[1], behind[1]):
        if new[:len(old)] != old:
            return False
    channels = channels_in(network)
    for name, index in sorted(set(loop)):
        _, _, _, word, place, _ = found_step(network, channels, name, index)
        if word == "take" and behind[1][place]:
            return False
    return True


def is_bounded(network, numbers, weights, start):
    """Whether the numbers, a dict, are bounds of the loads of closed views without an exposed one."""
    if not isinstance(numbers, dict) or not all([is_whole(numbers[view]) for view in numbers]):
        return False
    source = ViewWays(network, start)
    found = {source.row_of(view): numbers[view] for view in numbers}
    if None in found or source.first not in found or found[source.first] < load_in(start, weights):
        return False
    gains = gains_of(network, weights)
    for row in found:
        if source.exposing_send(row, source.machines) is not None:
            return False
        for act, behind in source.ways_from(row, source.machines):
            if behind not in found or found[behind] < found[row] + gains.get(act, 0):
                return False
    return True


def is_greatest(network, value, numbers, weights, start):
    """Whether the value is a run to a configuration with the greatest of the numbers as its load."""
    if not is_run_from(network, value, start):
        return False
    return load_in(behind_moves(network, value, start), weights) == max(list(numbers.values()))
