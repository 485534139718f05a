"""Networks: machines under names, and links between them that form no circle."""

from halflink.errors import InvalidNetwork, InvalidOperation, UnknownName
from halflink.machines.machines import check_machine, is_machine_near, with_neighbours_named
from halflink.values import are_names, is_ascending, is_name, is_naming, is_row

MAX_MACHINES = 6


def is_network(value):
    """Whether the value is a network."""
    if not isinstance(value, tuple) or len(value) != 2:
        return False
    machines, links = value
    if not isinstance(machines, tuple) or not 1 <= len(machines) <= MAX_MACHINES:
        return False
    names = []
    for part in machines:
        if not isinstance(part, tuple) or len(part) != 2 or not is_name(part[0]):
            return False
        names.append(part[0])
    if not is_ascending(names) or not are_links(links, names):
        return False
    for name, machine in machines:
        near = [other if one == name else one for one, other in links if one == name or other == name]
        if not is_machine_near(machine, near):
            return False
    return True


def are_links(value, names):
    """Whether the value is what a network with these names has as its links."""
    if not isinstance(value, tuple):
        return False
    for link in value:
        if not isinstance(link, tuple) or len(link) != 2:
            return False
        one, other = link
        if one not in names or other not in names or not one < other:
            return False
    # Three links are the fewest that form a circle.
    return is_ascending(value) and (len(value) < 3 or is_without_circle(value, names))


def is_without_circle(links, names):
    """Whether there is at most one way between two of these names."""
    groups = {name: name for name in names}
    for one, other in links:
        old, new = groups[one], groups[other]
        if old == new:
            return False
        for name in names:
            if groups[name] == old:
                groups[name] = new
    return True


def ordered_link(one, other):
    """The link between two names, the smaller one first."""
    return (one, other) if one < other else (other, one)


def check_network(network):
    """Raise the error that is due for what is no network."""
    if not is_network(network):
        raise InvalidNetwork("not a network")


def check_name(network, name):
    """Raise the error that is due for what is no name of a machine of the network."""
    if name not in names_in(network):
        raise UnknownName(name)


def make_network(*links, **machines):
    """The network with these links, and with a machine under each keyword."""
    return network_from(machines, links)


def network_from(machines, links):
    """The network with a dict of machines and a tuple of links, in any order, turned about and repeated."""
    # Only names can be compared with one another, so they are checked before they are sorted.
    if not isinstance(machines, dict) or not all([is_name(name) for name in machines]):
        raise InvalidNetwork("not a dict of machines under names")
    if not isinstance(links, tuple) or not all([is_row(link, 2) and are_names(link) for link in links]):
        raise InvalidNetwork("not a tuple of pairs of names")
    network = assembled(machines, links)
    check_network(network)
    return network


def assembled(machines, links):
    """The pair of these machines and these links in their order, whether it is a network or not."""
    return (
        tuple([(name, machines[name]) for name in sorted(list(machines))]),
        tuple(sorted({ordered_link(one, other) for one, other in links})),
    )


def possible_network(machines, links):
    """The network of these machines and these links, where an operation asks for it."""
    network = assembled(machines, links)
    if not is_network(network):
        raise InvalidOperation("the result would not be a network")
    return network


def names_in(network):
    """The names of the machines of what is known to be a network."""
    return tuple([name for name, _ in network[0]])


def machine_names(network):
    """The names of the machines, ascending."""
    check_network(network)
    return names_in(network)


def machine_of(network, name):
    """The machine with this name."""
    check_network(network)
    check_name(network, name)
    return dict(network[0])[name]


def channels_in(network):
    """The channels of what is known to be a network."""
    return tuple(sorted([*network[1], *[(other, one) for one, other in network[1]]]))


def channels_of(network):
    """The channels, ascending: two for each link."""
    check_network(network)
    return channels_in(network)


def linked_in(network, name):
    """The machines that are linked to one of what is known to be a network."""
    return tuple([taker for sender, taker in channels_in(network) if sender == name])


def linked_to(network, name):
    """The names of the machines that are linked to this one, ascending."""
    check_network(network)
    check_name(network, name)
    return linked_in(network, name)


def ways_from(network, name):
    """The way to each machine to which one leads from this machine, under the name of its end."""
    ways = {name: (name,)}
    waiting = [name]
    while waiting:
        here = waiting.pop()
        for there in linked_in(network, here):
            if there not in ways:
                ways[there] = ways[here] + (there,)
                waiting.append(there)
    return ways


def trees_of(network):
    """The trees of the network, ascending."""
    check_network(network)
    return tuple(sorted({tuple(sorted(list(ways_from(network, name)))) for name in names_in(network)}))


def way_between(network, one, other):
    """The names on the way from one machine to the other one, or None if there is no way."""
    check_network(network)
    check_name(network, one)
    check_name(network, other)
    return ways_from(network, one).get(other)


def with_machine(network, name, machine):
    """The network with a machine under this name, in the place of the old one if there is one."""
    check_network(network)
    check_machine(machine)
    if not is_name(name):
        raise InvalidOperation("not a name")
    machines = dict(network[0])
    machines[name] = machine
    return possible_network(machines, network[1])


def without_machine(network, name):
    """The network without a machine and its links."""
    check_network(network)
    check_name(network, name)
    machines = dict(network[0])
    del machines[name]
    return possible_network(machines, [link for link in network[1] if name not in link])


def with_link(network, one, other):
    """The network with one link more."""
    check_network(network)
    check_name(network, one)
    check_name(network, other)
    link = ordered_link(one, other)
    if link in network[1]:
        raise InvalidOperation("the link is there already")
    return possible_network(dict(network[0]), [*network[1], link])


def without_link(network, one, other):
    """The network without this link."""
    check_network(network)
    check_name(network, one)
    check_name(network, other)
    link = ordered_link(one, other)
    if link not in network[1]:
        raise InvalidOperation("the link is not there")
    return possible_network(dict(network[0]), [kept for kept in network[1] if kept != link])


def renamed_network(network, **new_names):
    """The network with other names for the machines that are keywords."""
    return renamed_network_by(network, new_names)


def renamed_network_by(network, new_names):
    """The network with other names, everywhere, for the machines that are keys of the dict."""
    check_network(network)
    if not is_naming(new_names):
        raise InvalidOperation("not a dict from names to names")
    for name in sorted(list(new_names)):
        check_name(network, name)
    names = {name: new_names.get(name, name) for name in names_in(network)}
    if len(set(list(names.values()))) < len(names):
        raise InvalidOperation("two machines would get one name")
    machines = {names[name]: with_neighbours_named(machine, names) for name, machine in network[0]}
    return assembled(machines, [(names[one], names[other]) for one, other in network[1]])
