"""Loads: how many letters can lie in the queues, each counted with the weight of its channel."""

from halflink.errors import InvalidOperation
from halflink.networks.configurations import check_configuration, crossed_in
from halflink.networks.networks import channels_in, check_network
from halflink.runs.runs import behind_moves, found_step, is_run_from
from halflink.values import is_row, is_whole, is_whole_from
from halflink.views.oneway import one_way_views
from halflink.views.views import run_in_acts, short_start
from halflink.views.ways import ViewWays, are_closed, components, least_weights, path_to

MAX_WEIGHT = 1000


def weights_in(network, weights):
    """The weights of the channels, for the parameter weights of a function."""
    many = 2 * len(network[1])
    if weights is None:
        return (1,) * many
    if not is_row(weights, many) or not all([is_whole_from(weight, 0, MAX_WEIGHT) for weight in weights]):
        raise InvalidOperation("not weights of the channels")
    return weights


def load_in(configuration, weights):
    """The load of what is known to be a configuration."""
    return sum([weight * len(queue) for weight, queue in zip(weights, configuration[1])])


def load_of(network, configuration, *, weights=None):
    """The load of the configuration."""
    check_network(network)
    check_configuration(network, configuration)
    return load_in(configuration, weights_in(network, weights))


class Gains:
    """How much each act adds to the load."""

    def __init__(self, network, weights):
        self._gains = {}
        channels = channels_in(network)
        for name, machine in network[0]:
            for index, _ in enumerate(machine[2]):
                _, _, _, word, place, _ = found_step(network, channels, name, index)
                if word != "step":
                    self._gains[name, index] = weights[place] if word == "send" else -weights[place]

    def of_act(self, act):
        """What the act adds; the letter of a hand is taken at once."""
        return self._gains[act[1], act[2]] if act[0] in ("post", "take") else 0


def growing_way(ways, places, gains):
    """A view, an act that adds to the load, and the view behind it, from which ways lead back; or None."""
    for view in ways:
        for act, behind in ways[view]:
            if places[view] == places[behind] and gains.of_act(act) > 0:
                return (view, act, behind)
    return None


def growing_paper(ways, first, found):
    """The load paper with a way that adds to the load and can be gone again and again."""
    view, act, behind = found
    _, before = least_weights(ways, first)
    _, back = least_weights(ways, behind)
    return ("unbounded", run_in_acts(path_to(before, view)), run_in_acts((act,) + path_to(back, view)))


def greatest_numbers(ways, places, gains, begun):
    """The greatest load behind any path to each view, where no way can be gone again and again to add to it."""
    # Between views from which ways lead to one another, nothing is added, so all of them have the same number. The
    # place of the first view is 0.
    best = {0: begun}
    for place, view in sorted([(places[node], node) for node in ways]):
        for act, behind in ways[view]:
            number = best[place] + gains.of_act(act)
            if places[behind] not in best or best[places[behind]] < number:
                best[places[behind]] = number
    return {view: best[places[view]] for view in sorted(list(ways))}


def bounded_paper(ways, first, numbers, gains):
    """The load paper with the greatest numbers, and a run that reaches the greatest of them."""
    # Along these ways, the load is as great as it can be.
    full = {
        view: [(act, behind) for act, behind in ways[view] if numbers[behind] == numbers[view] + gains.of_act(act)]
        for view in ways
    }
    _, before = least_weights(full, first)
    return ("bounded", numbers, run_in_acts(path_to(before, max(numbers, key=lambda view: numbers[view]))))


def paper_in(network, views, weights):
    """Any load paper, for the source of the views and all ways between them."""
    source, ways, places = views
    gains = Gains(network, weights)
    found = growing_way(ways, places, gains)
    if found is not None:
        return growing_paper(ways, source.first, found)
    numbers = greatest_numbers(ways, places, gains, load_in(source.start, weights))
    return bounded_paper(ways, source.first, numbers, gains)


def placed_views(network, start):
    """The source of the views, all ways between them, and the places of the views in an order along these ways."""
    source, ways = one_way_views(network, start)
    return (source, ways, components(ways, source.first))


def greatest_in(network, views, weights):
    """The greatest load, or None, for the source of the views and all ways between them."""
    source, ways, places = views
    gains = Gains(network, weights)
    if growing_way(ways, places, gains) is not None:
        return None
    return max(list(greatest_numbers(ways, places, gains, load_in(source.start, weights)).values()))


def load_paper(network, *, weights=None, start=None):
    """Any load paper."""
    check_network(network)
    given = weights_in(network, weights)
    return paper_in(network, placed_views(network, start), given)


def greatest_load(network, *, weights=None, start=None):
    """The greatest load of all configurations that runs lead to, or None if there is none."""
    check_network(network)
    given = weights_in(network, weights)
    return greatest_in(network, placed_views(network, start), given)


def queue_bounds(network, *, start=None):
    """The greatest length of each queue, or None for one without a bound, in the order of the channels."""
    check_network(network)
    views = placed_views(network, start)
    places = range(2 * len(network[1]))
    rows = [tuple([1 if at == place else 0 for at in places]) for place in places]
    return tuple([greatest_in(network, views, weights) for weights in rows])


def is_load_paper(network, value, *, weights=None, start=None):
    """Whether the value is a load paper."""
    check_network(network)
    given = weights_in(network, weights)
    first = short_start(network, start)
    if not is_row(value, 3):
        return False
    if value[0] == "unbounded":
        return is_growing(network, value[1], value[2], given, first)
    return value[0] == "bounded" and not crossed_in(network, first) and is_bounded(
        ViewWays(network, first), value[1], value[2], given)


def is_growing(network, run, loop, weights, start):
    """Whether the second value is a loop behind the first one, a run, that adds to the load and can be repeated."""
    if not isinstance(run, tuple) or not isinstance(loop, tuple) or not is_run_from(network, run + loop, start):
        return False
    before, behind = behind_moves(network, run, start), behind_moves(network, run + loop, start)
    if before[0] != behind[0] or load_in(behind, weights) <= load_in(before, weights):
        return False
    for old, new in zip(before[1], behind[1]):
        if new[:len(old)] != old:
            return False
    channels = channels_in(network)
    for name, index in sorted(set(loop)):
        _, _, _, word, place, _ = found_step(network, channels, name, index)
        if word == "take" and behind[1][place]:
            return False
    return True


def is_bounded(source, numbers, run, weights):
    """Whether the numbers, a dict, are greatest loads of closed views, the greatest of them that behind the run."""
    if not isinstance(numbers, dict) or not all([is_whole(numbers[view]) for view in numbers]):
        return False
    # Only views can be sorted.
    if not all([source.is_node(view) for view in numbers]) or not are_closed(source, tuple(sorted(list(numbers)))):
        return False
    if numbers[source.first] < load_in(source.start, weights):
        return False
    gains = Gains(source.network, weights)
    for view in numbers:
        if source.exposing_send(view) is not None:
            return False
        for act, behind in source.ways_from(view):
            if numbers[behind] < numbers[view] + gains.of_act(act):
                return False
    if not is_run_from(source.network, run, source.start):
        return False
    return load_in(behind_moves(source.network, run, source.start), weights) == max(list(numbers.values()))
