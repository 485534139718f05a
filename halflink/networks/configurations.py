"""Configurations: a state for each machine, and a queue of letters for each channel."""

from halflink.errors import InvalidConfiguration, InvalidOperation
from halflink.machines.machines import check_state
from halflink.networks.networks import channels_in, check_name, check_network, names_in
from halflink.values import are_names, is_row, is_whole


def is_configuration(network, value):
    """Whether the value is a configuration of the network."""
    check_network(network)
    return fits_network(network, value)


def fits_network(network, value):
    """Whether the value is a configuration of what is known to be a network."""
    if not is_row(value, 2):
        return False
    states, queues = value
    return are_states_of(network, states) and are_queues_of(network, queues)


def are_states_of(network, value):
    """Whether the value is a tuple with a state for each machine."""
    if not is_row(value, len(network[0])):
        return False
    for state, (_, machine) in zip(value, network[0]):
        # Papers have very many states: the short test of the common kind keeps this quick.
        if not (type(state) is int or is_whole(state)) or not 0 <= state < machine[0]:
            return False
    return True


def are_queues_of(network, value):
    """Whether the value is a tuple with a queue for each channel."""
    return is_row(value, 2 * len(network[1])) and all([are_names(queue) for queue in value])


def check_configuration(network, configuration):
    """Raise the error that is due for what is no configuration of the network."""
    if not fits_network(network, configuration):
        raise InvalidConfiguration("not a configuration of the network")


def first_in(network):
    """The first configuration of what is known to be a network."""
    return ((0,) * len(network[0]), ((),) * (2 * len(network[1])))


def start_in(network, start):
    """The configuration in which runs begin, for the parameter start of a function."""
    if start is None:
        return first_in(network)
    check_configuration(network, start)
    return start


def first_configuration(network):
    """The configuration in which all states are 0 and all queues are empty."""
    check_network(network)
    return first_in(network)


def configuration_with(network, queues=None, **states):
    """The configuration with a dict of queues, and with a state under each keyword."""
    return configuration_from(network, queues, states)


def configuration_from(network, queues, states):
    """The configuration with a dict of queues and a dict of states; other queues are empty, other states 0."""
    check_network(network)
    given = {} if queues is None else queues
    channels = channels_in(network)
    if not isinstance(given, dict) or not all([key in channels and are_names(given[key]) for key in given]):
        raise InvalidConfiguration("not a dict from channels to tuples of letters")
    check_states(network, states)
    return (
        tuple([states.get(name, 0) for name in names_in(network)]),
        tuple([given.get(channel, ()) for channel in channels]),
    )


def check_states(network, states):
    """Raise the error that is due for what is no dict from names of machines to their states."""
    if not isinstance(states, dict) or not all([isinstance(key, str) for key in states]):
        raise InvalidOperation("not a dict of states under names")
    for name in sorted(list(states)):
        check_name(network, name)
    for name, machine in network[0]:
        if name in states:
            check_state(machine, states[name])


def queue_of(network, configuration, sender, taker):
    """The queue of the channel from the sender to the taker."""
    check_network(network)
    check_configuration(network, configuration)
    if (sender, taker) not in channels_in(network):
        raise InvalidOperation("not a channel of the network")
    return queue_in(network, configuration, sender, taker)


def queue_in(network, configuration, sender, taker):
    """The queue of what is known to be a channel."""
    return configuration[1][channels_in(network).index((sender, taker))]


def letter_count(network, configuration):
    """The number of all letters in queues."""
    check_network(network)
    check_configuration(network, configuration)
    return letters_lying(configuration)


def letters_lying(configuration):
    """The number of all letters in the queues of what is known to be a configuration."""
    return sum([len(queue) for queue in configuration[1]])


def crossed_links(network, configuration):
    """The links both of whose queues have letters, ascending."""
    check_network(network)
    check_configuration(network, configuration)
    return crossed_in(network, configuration)


def crossed_in(network, configuration):
    """The crossed links in what is known to be a configuration."""
    queues = configuration[1]
    # A letter somewhere is rarer than none, and where there is none, no link needs to be looked up.
    if not any(queues):
        return ()
    channels = channels_in(network)
    return tuple([
        (one, other)
        for one, other in network[1]
        if queues[channels.index((one, other))] and queues[channels.index((other, one))]
    ])
