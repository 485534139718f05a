"""Operations, which lead from a network and a configuration of it to others."""

from halflink.errors import InvalidOperation
from halflink.machines.machines import check_machine, check_state
from halflink.networks.configurations import queue_in
from halflink.networks.networks import (
    channels_in, check_name, linked_in, names_in, ordered_link, possible_network,
)
from halflink.runs.runs import behind_moves, replaced
from halflink.values import is_name


def behind_do(network, now, moves):
    """What is behind a tuple of moves."""
    return (network, behind_moves(network, moves, now))


def behind_add(network, now, name, machine):
    """What is behind the addition of a machine."""
    check_machine(machine)
    if not is_name(name) or name in names_in(network):
        raise InvalidOperation("not a name that is free")
    machines = dict(network[0])
    machines[name] = machine
    changed = possible_network(machines, network[1])
    at = names_in(changed).index(name)
    return (changed, (now[0][:at] + (0,) + now[0][at:], now[1]))


def behind_drop(network, now, name):
    """What is behind the removal of a machine."""
    check_name(network, name)
    if linked_in(network, name):
        raise InvalidOperation("the machine has links")
    machines = dict(network[0])
    del machines[name]
    at = names_in(network).index(name)
    return (possible_network(machines, network[1]), (now[0][:at] + now[0][at + 1:], now[1]))


def behind_join(network, now, one, other):
    """What is behind the addition of a link."""
    check_name(network, one)
    check_name(network, other)
    link = ordered_link(one, other)
    if link in network[1]:
        raise InvalidOperation("the link is there already")
    return relinked(network, now, [*network[1], link])


def behind_part(network, now, one, other):
    """What is behind the removal of a link."""
    check_name(network, one)
    check_name(network, other)
    link = ordered_link(one, other)
    if link not in network[1]:
        raise InvalidOperation("the link is not there")
    if queue_in(network, now, one, other) or queue_in(network, now, other, one):
        raise InvalidOperation("letters lie in the queues of the link")
    return relinked(network, now, [kept for kept in network[1] if kept != link])


def relinked(network, now, links):
    """The network with other links, and the configuration, with empty queues where there were none."""
    changed = possible_network(dict(network[0]), links)
    queues = {channel: queue for channel, queue in zip(channels_in(network), now[1])}
    return (changed, (now[0], tuple([queues.get(channel, ()) for channel in channels_in(changed)])))


def behind_swap(network, now, name, machine, state):
    """What is behind the exchange of a machine for another one in a state."""
    check_name(network, name)
    check_machine(machine)
    check_state(machine, state)
    machines = dict(network[0])
    machines[name] = machine
    changed = possible_network(machines, network[1])
    return (changed, (replaced(now[0], names_in(network).index(name), state), now[1]))


# The number of parts of each operation, and the function that tells what is behind it.
PARTS = {"do": 2, "add": 3, "drop": 2, "join": 3, "part": 3, "swap": 4}
ACTIONS = {
    "do": behind_do, "add": behind_add, "drop": behind_drop, "join": behind_join, "part": behind_part,
    "swap": behind_swap,
}


def has_form(value):
    """Whether the value has the form of an operation."""
    if not isinstance(value, tuple) or not value or not isinstance(value[0], str) or value[0] not in PARTS:
        return False
    return len(value) == PARTS[value[0]]


def behind_group(network, now, operations):
    """What is behind a tuple of operations; raise the error that is due for the first impossible one."""
    if not isinstance(operations, tuple):
        raise InvalidOperation("not a tuple of operations")
    for operation in operations:
        if not has_form(operation):
            raise InvalidOperation("not an operation")
        word, *given = operation
        action = ACTIONS[word]
        network, now = action(network, now, *given)
    return (network, now)


def moves_done(group):
    """The number of the moves of what is known to be a group."""
    return sum([len(operation[1]) for operation in group if operation[0] == "do"])
