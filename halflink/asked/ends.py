"""Dead ends, refused letters and finished configurations.

All of them can be told from the states and the first letters of the queues, which a configuration and a view have. The
first letters are a dict under the channels whose queues are not empty.
"""

from halflink.errors import InvalidOperation
from halflink.networks.configurations import check_configuration
from halflink.networks.networks import channels_in, check_name, check_network
from halflink.asked.reach import nearest_run
from halflink.runs.runs import frozen, walked
from halflink.values import is_row
from halflink.views.oneway import one_way_views
from halflink.views.views import other_end
from halflink.views.ways import are_closed


def letters_in(network, configuration):
    """The first letters of the queues of a configuration."""
    pairs = zip(channels_in(network), configuration[1])
    return {channel: queue[0] for channel, queue in pairs if queue}


def letters_seen(network, view):
    """The first letters of the queues in a view."""
    pairs = zip(network[1], view[1])
    return {(hold[0], other_end(link, hold[0])): hold[1] for link, hold in pairs if hold != ()}


def deeds_at(machine, state):
    """The list of the deeds of a machine in a state."""
    return [deed for before, deed, _ in machine[2] if before == state]


def can_do(name, deed, letters):
    """Whether the machine with this name can do a deed of its state."""
    return deed[0] != "take" or letters.get((deed[1], name)) == deed[2]


def movable_in(network, states, letters):
    """The names of the machines that can move, ascending."""
    return tuple([
        name
        for (name, machine), state in zip(network[0], states)
        if any([can_do(name, deed, letters) for deed in deeds_at(machine, state)])
    ])


def is_finished_in(network, states, letters):
    """Whether all states are final and all queues are empty."""
    return not letters and all([state in machine[1] for (_, machine), state in zip(network[0], states)])


def is_dead_in(network, states, letters):
    """Whether no machine can move although not all is finished."""
    return not movable_in(network, states, letters) and not is_finished_in(network, states, letters)


def refuses_in(network, states, letters, channel):
    """Whether the channel refuses its first letter."""
    sender, taker = channel
    if channel not in letters:
        return False
    deeds = [
        deed
        for (name, machine), state in zip(network[0], states)
        if name == taker
        for deed in deeds_at(machine, state)
    ]
    takes = [deed[2] for deed in deeds if deed[:2] == ("take", sender)]
    return deeds != [] and len(takes) == len(deeds) and letters[channel] not in takes


def movable_machines(network, configuration):
    """The names of the machines that can move, ascending."""
    check_network(network)
    check_configuration(network, configuration)
    return movable_in(network, configuration[0], letters_in(network, configuration))


def is_dead_end(network, configuration):
    """Whether no machine can move and the configuration is not finished."""
    check_network(network)
    check_configuration(network, configuration)
    return is_dead_in(network, configuration[0], letters_in(network, configuration))


def is_finished(network, configuration):
    """Whether all states are final and all queues are empty."""
    check_network(network)
    check_configuration(network, configuration)
    return is_finished_in(network, configuration[0], letters_in(network, configuration))


def refusing_channels(network, configuration):
    """The channels that refuse their first letter, ascending."""
    check_network(network)
    check_configuration(network, configuration)
    letters = letters_in(network, configuration)
    return tuple([
        channel
        for channel in channels_in(network)
        if refuses_in(network, configuration[0], letters, channel)
    ])


def paper_for(network, start, fits):
    """Any paper that shows whether a run leads to a configuration whose states and first letters fit."""
    source, ways = one_way_views(network, start)
    wanted = [view for view in ways if fits(view[0], letters_seen(network, view))]
    run = nearest_run(ways, source.first, wanted)
    return ("closed", tuple(sorted(list(ways)))) if run is None else ("run", run)


def is_paper_for(network, value, start, fits):
    """Whether the value is a paper that shows whether a run leads to a configuration that fits."""
    source, _ = one_way_views(network, start)
    if not is_row(value, 2):
        return False
    if value[0] == "run":
        return leads_to_fitting(network, value[1], source.start, fits)
    if value[0] != "closed" or not are_closed(source, value[1]):
        return False
    return not any([fits(view[0], letters_seen(network, view)) for view in value[1]])


def leads_to_fitting(network, value, start, fits):
    """Whether the value is a run that leads to a configuration that fits."""
    if not isinstance(value, tuple):
        return False
    many, states, queues = walked(network, value, start)
    if many < len(value):
        return False
    behind = frozen(states, queues)
    return fits(behind[0], letters_in(network, behind))


def end_paper(network, *, start=None):
    """Any paper that shows whether a run leads to a dead end, with a shortest run."""
    check_network(network)
    return paper_for(network, start, lambda states, letters: is_dead_in(network, states, letters))


def is_end_paper(network, value, *, start=None):
    """Whether the value is an end paper."""
    check_network(network)
    return is_paper_for(network, value, start, lambda states, letters: is_dead_in(network, states, letters))


def check_channel(network, sender, taker):
    """Raise the errors that are due for what is no channel of what is known to be a network."""
    check_name(network, sender)
    check_name(network, taker)
    if (sender, taker) not in channels_in(network):
        raise InvalidOperation("not a channel of the network")


def refusal_paper(network, sender, taker, *, start=None):
    """Any paper that shows whether a run leads to where the channel refuses its first letter, with a shortest run."""
    check_network(network)
    check_channel(network, sender, taker)
    channel = (sender, taker)
    return paper_for(network, start, lambda states, letters: refuses_in(network, states, letters, channel))


def is_refusal_paper(network, sender, taker, value, *, start=None):
    """Whether the value is a refusal paper of the channel."""
    check_network(network)
    check_channel(network, sender, taker)
    channel = (sender, taker)
    return is_paper_for(network, value, start, lambda states, letters: refuses_in(network, states, letters, channel))


def finish_paper(network, *, start=None):
    """Any paper that shows whether a run leads to a finished configuration, with a shortest run."""
    check_network(network)
    return paper_for(network, start, lambda states, letters: is_finished_in(network, states, letters))


def is_finish_paper(network, value, *, start=None):
    """Whether the value is a finish paper."""
    check_network(network)
    return is_paper_for(network, value, start, lambda states, letters: is_finished_in(network, states, letters))
