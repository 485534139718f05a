"""Which configurations runs lead to."""

from halflink.networks.configurations import check_configuration, check_states
from halflink.networks.networks import channels_in, check_network, names_in
from halflink.runs.runs import behind_moves, found_step, is_run_from
from halflink.values import is_row, is_whole
from halflink.views.oneway import MAX_VIEWS, one_way_parts
from halflink.views.parts import are_closed, explored_parts, rows_of, run_to_wanted
from halflink.views.views import linked_at
from halflink.views.ways import rows_in


class CountedWays:
    """The source whose rows are the counted views for an asked configuration: the rows of views, and the counts."""

    def __init__(self, network, views, asked):
        self.machines = views.machines
        self._views = views
        self._asked = asked
        self._channels = channels_in(network)
        self._links = [len(network[0]) + linked_at(network, *channel) for channel in self._channels]
        # The place of the first count.
        self._begin = len(views.first)
        self.first = views.first + (0,) * len(self._channels)
        self.parts = [places + self._counts_among(places) for places in views.parts]
        self._posts = posts_of(network)

    def _counts_among(self, places):
        """The places of the counts of the channels whose links have these places."""
        return [self._begin + at for at, link in enumerate(self._links) if link in places]

    def row_of(self, value):
        """The row of a counted view, or None if the value is none."""
        if not is_row(value, 2) or not is_row(value[1], len(self._channels)):
            return None
        if not all([is_whole(count) and count >= 0 for count in value[1]]):
            return None
        row = self._views.row_of(value[0])
        return None if row is None else row + value[1]

    def counted_view_of(self, row):
        """The counted view of a row."""
        return (self._views.view_of(row[:self._begin]), row[self._begin:])

    def ways_from(self, row, machines):
        """The possible acts that some machines begin, without posts that are not allowed, and the rows behind them."""
        found = []
        for act, behind in self._views.ways_from(row, machines):
            if act[0] != "post":
                found.append((act, behind))
                continue
            channel, letter = self._posts[act[1:]]
            count = self._count_behind(row, channel, letter)
            if count is not None:
                at = self._begin + channel
                found.append((act, behind[:at] + (count,) + behind[at + 1:]))
        return found

    def _count_behind(self, row, channel, letter):
        """The count of a channel behind a post of a letter, or None if it is not allowed."""
        rest = self._rest(row, channel)
        wanted = self._asked[1][channel]
        many = len(rest) if rest else row[self._begin + channel]
        lying = rest if rest else wanted[:many]
        return many + 1 if lying + (letter,) == wanted[:many + 1] else None

    def _rest(self, row, channel):
        """The letters of the start that lie in a queue and may still be taken."""
        hold = row[self._links[channel]]
        if hold == () or hold[0] != self._channels[channel][0]:
            return ()
        queue = self._views.start[1][channel]
        return queue[len(queue) - hold[2]:]

    def is_met(self, row, places):
        """Whether the asked configuration is met at these places of a row."""
        for at in places:
            if at < len(self.machines) and row[at] != self._asked[0][at]:
                return False
            if at >= self._begin and not self._is_queue_met(row, at - self._begin):
                return False
        return True

    def _is_queue_met(self, row, channel):
        """Whether the asked queue of a channel is met at a row."""
        count = row[self._begin + channel]
        queue = self._asked[1][channel]
        return count == len(queue) if count > 0 else queue == self._rest(row, channel)


def posts_of(network):
    """The channel and the letter of each send, under the name and the index; channels are told by their places."""
    channels = channels_in(network)
    posts = {}
    for name, machine in network[0]:
        for index, transition in enumerate(machine[2]):
            if transition[1][0] == "send":
                _, _, _, _, place, letter = found_step(network, channels, name, index)
                posts[name, index] = (place, letter)
    return posts


def counted_ways(network, configuration, start):
    """The source of the counted views, and the start; raise the errors that are due for the arguments."""
    check_network(network)
    check_configuration(network, configuration)
    views, _ = one_way_parts(network, start)
    return (CountedWays(network, views, configuration), views.start)


def reach_paper(network, configuration, *, start=None):
    """Any paper that shows whether a run leads to the configuration, with a shortest run."""
    source, _ = counted_ways(network, configuration, start)
    parts = explored_parts(source, MAX_VIEWS)
    run = run_to_wanted(source, parts, MAX_VIEWS, source.is_met)
    if run is None:
        return ("closed", tuple([source.counted_view_of(row) for row in sorted(rows_of(parts))]))
    return ("run", run)


def is_reach_paper(network, configuration, value, *, start=None):
    """Whether the value is a reach paper."""
    source, first = counted_ways(network, configuration, start)
    if not is_row(value, 2):
        return False
    if value[0] == "run":
        return is_run_to(network, value[1], first, configuration)
    rows = rows_in(source, value[1]) if value[0] == "closed" else None
    if rows is None or not are_closed(source, rows):
        return False
    places = list(range(len(source.first)))
    return not any([source.is_met(row, places) for row in rows])


def is_run_to(network, value, start, configuration):
    """Whether the value is a run from the start to the configuration."""
    return is_run_from(network, value, start) and behind_moves(network, value, start) == configuration


def shortest_run(network, configuration, *, start=None):
    """Any shortest run to the configuration, or None."""
    word, found = reach_paper(network, configuration, start=start)
    return found if word == "run" else None


def is_reached(network, configuration, *, start=None):
    """Whether a run leads to the configuration."""
    return reach_paper(network, configuration, start=start)[0] == "run"


def quiet_rows(network, *, start=None):
    """The rows of states that some run leads to with all queues empty, ascending."""
    check_network(network)
    source, parts = one_way_parts(network, start)
    many = len(source.machines)
    for row in sorted([found[:many] for found in rows_of(parts) if not any(found[many:])]):
        yield row


def reached_rows(network, *, start=None):
    """The rows of states that some run leads to, ascending."""
    check_network(network)
    source, parts = one_way_parts(network, start)
    many = len(source.machines)
    for row in sorted({found[:many] for found in rows_of(parts)}):
        yield row


def meeting_run(network, *, start=None, **states):
    """Any shortest run to a configuration with the given states, or None."""
    return meeting_run_by(network, states, start=start)


def meeting_run_by(network, states, *, start=None):
    """Any shortest run to a configuration with the given states, a dict, or None."""
    check_network(network)
    check_states(network, states)
    source, parts = one_way_parts(network, start)
    asked = {at: states[name] for at, name in enumerate(names_in(network)) if name in states}
    return run_to_wanted(
        source, parts, MAX_VIEWS,
        lambda row, places: all([row[at] == asked[at] for at in places if at in asked]),
    )
