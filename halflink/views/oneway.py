"""One-way networks: in no run, both queues of one link have letters at the same time."""

from halflink.errors import Crossed
from halflink.networks.configurations import crossed_in
from halflink.networks.networks import check_network
from halflink.runs.runs import frozen, walked
from halflink.values import is_row, is_whole
from halflink.views.views import run_in_acts, short_start, viewed_start
from halflink.views.ways import ViewWays, are_closed, explored, least_weights, path_to, weight_of_act

MAX_VIEWS = 2000


def crossing_ahead(source, ways):
    """Any shortest run to a crossing, with all ways between the views; or None."""
    numbers, before = least_weights(ways, source.first)
    exposed = [view for view in ways if source.exposing_send(view) is not None]
    if not exposed:
        return None
    view = min(exposed, key=lambda node: numbers[node])
    return run_in_acts(path_to(before, view)) + (source.exposing_send(view),)


def crossing_from(network, start):
    """Any shortest run to a crossing from a checked start, or None."""
    if crossed_in(network, start):
        return ()
    source = ViewWays(network, start)
    return crossing_ahead(source, explored(source, MAX_VIEWS))


def one_way_views(network, start):
    """The source of the views and all ways between them; raise the errors that are due where a link can be crossed."""
    source = ViewWays(network, viewed_start(network, start))
    ways = explored(source, MAX_VIEWS)
    run = crossing_ahead(source, ways)
    if run is not None:
        raise Crossed(run)
    return (source, ways)


def is_one_way(network, *, start=None):
    """Whether no run leads to a configuration in which a link is crossed."""
    check_network(network)
    return crossing_from(network, short_start(network, start)) is None


def crossing_run(network, *, start=None):
    """Any shortest run to a crossing, or None."""
    check_network(network)
    return crossing_from(network, short_start(network, start))


def view_numbers(network, *, start=None):
    """All views to which paths lead, with the least weight of such a path, by these numbers."""
    check_network(network)
    source = ViewWays(network, viewed_start(network, start))
    numbers, _ = least_weights(explored(source, MAX_VIEWS), source.first)
    for number, view in sorted([(numbers[node], node) for node in numbers]):
        yield (view, number)


def one_way_paper(network, *, start=None):
    """Any paper that shows whether the network is one-way."""
    check_network(network)
    first = short_start(network, start)
    if crossed_in(network, first):
        return ("crossing", ())
    source = ViewWays(network, first)
    ways = explored(source, MAX_VIEWS)
    run = crossing_ahead(source, ways)
    return ("closed", tuple(sorted(list(ways)))) if run is None else ("crossing", run)


def leads_to_crossing(network, value, start):
    """Whether the value is a run that leads to a configuration in which a link is crossed."""
    if not isinstance(value, tuple):
        return False
    many, states, queues = walked(network, value, start)
    return many == len(value) and crossed_in(network, frozen(states, queues)) != ()


def is_one_way_paper(network, value, *, start=None):
    """Whether the value is a one-way paper."""
    check_network(network)
    first = short_start(network, start)
    if not is_row(value, 2):
        return False
    if value[0] == "crossing":
        return leads_to_crossing(network, value[1], first)
    if value[0] != "closed" or crossed_in(network, first):
        return False
    source = ViewWays(network, first)
    return are_closed(source, value[1]) and all([source.exposing_send(view) is None for view in value[1]])


def nearest_paper(network, *, start=None):
    """Any paper that shows that a run to a crossing is a shortest one, or None if the network is one-way."""
    check_network(network)
    first = short_start(network, start)
    if crossed_in(network, first):
        return ((), {})
    source = ViewWays(network, first)
    ways = explored(source, MAX_VIEWS)
    run = crossing_ahead(source, ways)
    if run is None:
        return None
    numbers, _ = least_weights(ways, source.first)
    return (run, {view: numbers[view] for view in sorted(list(numbers)) if numbers[view] < len(run)})


def is_nearest_paper(network, value, *, start=None):
    """Whether the value is a nearest paper."""
    check_network(network)
    first = short_start(network, start)
    if not is_row(value, 2) or not isinstance(value[1], dict):
        return False
    run, numbers = value
    if crossed_in(network, first):
        return is_row(run, 0) and numbers == {}
    return leads_to_crossing(network, run, first) and are_nearest(ViewWays(network, first), len(run), numbers)


def are_nearest(source, many, numbers):
    """Whether the numbers of a dict show that no run with fewer moves leads to a crossing."""
    for view in numbers:
        if not source.is_node(view) or not is_whole(numbers[view]) or numbers[view] < 0:
            return False
    if numbers.get(source.first) != 0:
        return False
    for view in numbers:
        if source.exposing_send(view) is not None and numbers[view] < many - 1:
            return False
        for act, behind in source.ways_from(view):
            # A view that is not among them counts as one with the length of the run.
            if numbers.get(behind, many) > numbers[view] + weight_of_act(act):
                return False
    return True
