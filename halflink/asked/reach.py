"""Which configurations runs lead to."""

from halflink.networks.configurations import check_configuration, check_states
from halflink.networks.networks import channels_in, check_network, names_in
from halflink.runs.runs import behind_moves, found_step, is_run_from
from halflink.values import is_row, is_whole
from halflink.views.oneway import MAX_VIEWS, one_way_views
from halflink.views.views import run_in_acts
from halflink.views.ways import are_closed, explored, least_weights, path_to


class CountedWays:
    """The source whose nodes are the counted views for an asked configuration."""

    def __init__(self, views, asked):
        self.start = views.start
        self._views = views
        self._asked = asked
        self._network = views.network
        self._channels = channels_in(views.network)
        self.first = (views.first, (0,) * len(self._channels))

    def is_node(self, value):
        """Whether the value is a counted view."""
        if not is_row(value, 2) or not self._views.is_node(value[0]) or not is_row(value[1], len(self._channels)):
            return False
        return all([is_whole(count) and count >= 0 for count in value[1]])

    def ways_from(self, node):
        """The possible acts, without posts that are not allowed, and the counted views behind them."""
        view, counts = node
        found = []
        for act, behind in self._views.ways_from(view):
            counted = self._counts_behind(view, counts, act) if act[0] == "post" else counts
            if counted is not None:
                found.append((act, (behind, counted)))
        return found

    def _counts_behind(self, view, counts, act):
        """The counts behind a post, or None if it is not allowed."""
        _, _, _, _, place, letter = found_step(self._network, self._channels, act[1], act[2])
        rest = self._rest(view, place)
        wanted = self._asked[1][place]
        many = len(rest) if rest else counts[place]
        lying = rest if rest else wanted[:many]
        if lying + (letter,) != wanted[:many + 1]:
            return None
        return counts[:place] + (many + 1,) + counts[place + 1:]

    def _rest(self, view, place):
        """The letters of the start that lie in a queue and may still be taken."""
        sender, taker = self._channels[place]
        for link, hold in zip(self._network[1], view[1]):
            if hold != () and hold[0] == sender and taker in link:
                queue = self.start[1][place]
                return queue[len(queue) - hold[2]:]
        return ()

    def is_met(self, node):
        """Whether the asked configuration is met at a counted view."""
        view, counts = node
        states, queues = self._asked
        if view[0] != states:
            return False
        for place, count in enumerate(counts):
            if count > 0 and count != len(queues[place]):
                return False
            if count == 0 and queues[place] != self._rest(view, place):
                return False
        return True


def counted_ways(network, configuration, start):
    """The source of the counted views; raise the errors that are due for the arguments."""
    check_network(network)
    check_configuration(network, configuration)
    views, _ = one_way_views(network, start)
    return CountedWays(views, configuration)


def reach_paper(network, configuration, *, start=None):
    """Any paper that shows whether a run leads to the configuration, with a shortest run."""
    source = counted_ways(network, configuration, start)
    ways = explored(source, MAX_VIEWS)
    met = [node for node in ways if source.is_met(node)]
    run = nearest_run(ways, source.first, met)
    return ("closed", tuple(sorted(list(ways)))) if run is None else ("run", run)


def nearest_run(ways, first, wanted):
    """Any shortest run of a path from the first node to one of the wanted ones, or None if there are none."""
    if not wanted:
        return None
    numbers, before = least_weights(ways, first)
    return run_in_acts(path_to(before, min(wanted, key=lambda node: numbers[node])))


def is_reach_paper(network, configuration, value, *, start=None):
    """Whether the value is a reach paper."""
    source = counted_ways(network, configuration, start)
    if not is_row(value, 2):
        return False
    if value[0] == "run":
        return is_run_to(network, value[1], source.start, configuration)
    return value[0] == "closed" and are_closed(source, value[1]) and not any([source.is_met(node) for node in value[1]])


def is_run_to(network, value, start, configuration):
    """Whether the value is a run from the start to the configuration."""
    return is_run_from(network, value, start) and behind_moves(network, value, start) == configuration


def shortest_run(network, configuration, *, start=None):
    """Any shortest run to the configuration, or None."""
    word, found = reach_paper(network, configuration, start=start)
    return found if word == "run" else None


def is_reached(network, configuration, *, start=None):
    """Whether a run leads to the configuration."""
    return reach_paper(network, configuration, start=start)[0] == "run"


def quiet_rows(network, *, start=None):
    """The rows of states that some run leads to with all queues empty, ascending."""
    check_network(network)
    _, ways = one_way_views(network, start)
    for row in sorted({view[0] for view in ways if not any(view[1])}):
        yield row


def reached_rows(network, *, start=None):
    """The rows of states that some run leads to, ascending."""
    check_network(network)
    _, ways = one_way_views(network, start)
    for row in sorted({view[0] for view in ways}):
        yield row


def meeting_run(network, *, start=None, **states):
    """Any shortest run to a configuration with the given states, or None."""
    return meeting_run_by(network, states, start=start)


def meeting_run_by(network, states, *, start=None):
    """Any shortest run to a configuration with the given states, a dict, or None."""
    check_network(network)
    check_states(network, states)
    source, ways = one_way_views(network, start)
    asked = [(at, states[name]) for at, name in enumerate(names_in(network)) if name in states]
    wanted = [view for view in ways if all([view[0][at] == state for at, state in asked])]
    return nearest_run(ways, source.first, wanted)
