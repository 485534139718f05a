"""One-way networks: in no run, both queues of one link have letters at the same time."""

from halflink.errors import Crossed
from halflink.networks.configurations import crossed_in
from halflink.networks.networks import check_network
from halflink.runs.runs import frozen, walked
from halflink.values import is_row, is_whole
from halflink.views.graphs import weight_of_act
from halflink.views.parts import are_closed, explored_parts, numbered_rows, rows_of, whole_of
from halflink.views.views import short_start, viewed_start
from halflink.views.ways import ViewWays, rows_in

MAX_VIEWS = 2000


def is_crossing_ahead(source, parts):
    """Whether a run leads to a crossing, which lies in one of the parts."""
    return any([exposed_numbers(source, part) for part in parts])


def exposed_numbers(source, part):
    """The list of the numbers of the exposed rows of a part."""
    return [
        number for number, row in enumerate(part.all_rows)
        if source.exposing_send(row, part.machines) is not None
    ]


def crossing_ahead(source, parts):
    """Any shortest run to a crossing, or None."""
    if not is_crossing_ahead(source, parts):
        return None
    whole = whole_of(source, parts, MAX_VIEWS)
    run, number = whole.nearest(exposed_numbers(source, whole))
    return run + (source.exposing_send(whole.all_rows[number], whole.machines),)


def views_ahead(network, start):
    """The source of the views from a checked and uncrossed start, and its parts."""
    source = ViewWays(network, start)
    return (source, explored_parts(source, MAX_VIEWS))


def one_way_parts(network, start):
    """The source of the views and its parts; raise the errors that are due where a link can be crossed."""
    source, parts = views_ahead(network, viewed_start(network, start))
    run = crossing_ahead(source, parts)
    if run is not None:
        raise Crossed(run)
    return (source, parts)


def views_in(source, parts):
    """All views to which paths lead, as an ascending tuple."""
    return tuple([source.view_of(row) for row in sorted(rows_of(parts))])


def numbered_views(parts):
    """Pairs of the least weight of a path to a view and the row of this view, for all views, ascending."""
    return sorted(numbered_rows(parts, [part.weights() for part in parts]))


def is_one_way(network, *, start=None):
    """Whether no run leads to a configuration in which a link is crossed."""
    check_network(network)
    first = short_start(network, start)
    if crossed_in(network, first):
        return False
    source, parts = views_ahead(network, first)
    return not is_crossing_ahead(source, parts)


def crossing_run(network, *, start=None):
    """Any shortest run to a crossing, or None."""
    check_network(network)
    first = short_start(network, start)
    if crossed_in(network, first):
        return ()
    source, parts = views_ahead(network, first)
    return crossing_ahead(source, parts)


def view_numbers(network, *, start=None):
    """All views to which paths lead, with the least weight of such a path, by these numbers."""
    check_network(network)
    source, parts = views_ahead(network, viewed_start(network, start))
    for number, row in numbered_views(parts):
        yield (source.view_of(row), number)


def one_way_paper(network, *, start=None):
    """Any paper that shows whether the network is one-way."""
    check_network(network)
    first = short_start(network, start)
    if crossed_in(network, first):
        return ("crossing", ())
    source, parts = views_ahead(network, first)
    run = crossing_ahead(source, parts)
    return ("closed", views_in(source, parts)) if run is None else ("crossing", run)


def leads_to_crossing(network, value, start):
    """Whether the value is a run that leads to a configuration in which a link is crossed."""
    if not isinstance(value, tuple):
        return False
    many, states, queues = walked(network, value, start)
    return many == len(value) and crossed_in(network, frozen(states, queues)) != ()


def is_one_way_paper(network, value, *, start=None):
    """Whether the value is a one-way paper."""
    check_network(network)
    first = short_start(network, start)
    if not is_row(value, 2):
        return False
    if value[0] == "crossing":
        return leads_to_crossing(network, value[1], first)
    if value[0] != "closed" or crossed_in(network, first):
        return False
    source = ViewWays(network, first)
    rows = rows_in(source, value[1])
    return rows is not None and are_closed(source, rows) and not any_exposed(source, rows)


def any_exposed(source, rows):
    """Whether some of the rows are exposed."""
    for row in rows:
        if source.exposing_send(row, source.machines) is not None:
            return True
    return False


def nearest_paper(network, *, start=None):
    """Any paper that shows that a run to a crossing is a shortest one, or None if the network is one-way."""
    check_network(network)
    first = short_start(network, start)
    if crossed_in(network, first):
        return ((), {})
    source, parts = views_ahead(network, first)
    run = crossing_ahead(source, parts)
    if run is None:
        return None
    near = sorted([(row, number) for number, row in numbered_views(parts) if number < len(run)])
    return (run, {source.view_of(row): number for row, number in near})


def is_nearest_paper(network, value, *, start=None):
    """Whether the value is a nearest paper."""
    check_network(network)
    first = short_start(network, start)
    if not is_row(value, 2) or not isinstance(value[1], dict):
        return False
    run, numbers = value
    if crossed_in(network, first):
        return is_row(run, 0) and numbers == {}
    return leads_to_crossing(network, run, first) and are_nearest(ViewWays(network, first), len(run), numbers)


def are_nearest(source, many, numbers):
    """Whether the numbers of a dict show that no run with fewer moves leads to a crossing."""
    found = {}
    for view in numbers:
        row = source.row_of(view)
        if row is None or not is_whole(numbers[view]) or numbers[view] < 0:
            return False
        found[row] = numbers[view]
    if found.get(source.first) != 0:
        return False
    for row in found:
        if found[row] < many - 1 and source.exposing_send(row, source.machines) is not None:
            return False
        for act, behind in source.ways_from(row, source.machines):
            # A view that is not among them counts as one with the length of the run.
            if found.get(behind, many) > found[row] + weight_of_act(act):
                return False
    return True
