"""Dead ends, refused letters and finished configurations.

All of them can be told from the states and the first letters of the queues, which a configuration and a view have. The
first letters are a dict under the channels whose queues are not empty.

A judge is a function that tells whether the machines and links at some places are wanted: True if they are, None if the
whole is not wanted then, and False if others decide. The whole is wanted if some parts are and none is unwanted.
"""

from halflink.errors import InvalidOperation
from halflink.networks.configurations import check_configuration
from halflink.networks.networks import channels_in, check_name, check_network, names_in
from halflink.runs.runs import frozen, walked
from halflink.values import is_row
from halflink.views.oneway import MAX_VIEWS, one_way_parts, views_in
from halflink.views.parts import are_closed, whole_of
from halflink.views.views import linked_at, other_end
from halflink.views.ways import rows_in


class Deeds:
    """The deeds of the machines of a network in their states; machines are told by their places."""

    def __init__(self, network):
        self._names = names_in(network)
        self._finals = [machine[1] for _, machine in network[0]]
        self._rows = [deeds_in_states(machine) for _, machine in network[0]]

    def can_move(self, at, states, letters):
        """Whether a machine can move."""
        for deed in self._rows[at][states[at]]:
            if deed[0] != "take" or letters.get((deed[1], self._names[at])) == deed[2]:
                return True
        return False

    def are_stuck(self, machines, states, letters):
        """Whether none of the machines can move."""
        for at in machines:
            if self.can_move(at, states, letters):
                return False
        return True

    def are_finished(self, machines, states, letters):
        """Whether the states of the machines are final and no letters lie there."""
        return not letters and all([states[at] in self._finals[at] for at in machines])

    def is_refused(self, channel, states, letters):
        """Whether the channel refuses its first letter."""
        sender, taker = channel
        if channel not in letters:
            return False
        at = self._names.index(taker)
        deeds = self._rows[at][states[at]]
        takes = [deed[2] for deed in deeds if deed[:2] == ("take", sender)]
        return deeds != [] and len(takes) == len(deeds) and letters[channel] not in takes


def deeds_in_states(machine):
    """For each state of a machine, the list of its deeds there."""
    rows = [[] for _ in range(machine[0])]
    for before, deed, _ in machine[2]:
        rows[before].append(deed)
    return rows


def letters_in(network, configuration):
    """The first letters of the queues of a configuration."""
    pairs = zip(channels_in(network), configuration[1])
    return {channel: queue[0] for channel, queue in pairs if queue}


def letters_seen(network, row, places):
    """The first letters of the queues in the row of a view, of the links among some places."""
    many = len(network[0])
    letters = {}
    for at in places:
        if at >= many and row[at] != ():
            sender, letter, _ = row[at]
            letters[sender, other_end(network[1][at - many], sender)] = letter
    return letters


def dead_judge(network):
    """The judge of dead ends."""
    deeds = Deeds(network)

    def judge(states, letters, machines, _):
        if not deeds.are_stuck(machines, states, letters):
            return None
        return not deeds.are_finished(machines, states, letters)

    return judge


def finish_judge(network):
    """The judge of finished configurations."""
    deeds = Deeds(network)

    def judge(states, letters, machines, _):
        return True if deeds.are_finished(machines, states, letters) else None

    return judge


def refusal_judge(network, channel):
    """The judge of configurations in which a channel refuses its first letter."""
    deeds = Deeds(network)
    link = len(network[0]) + linked_at(network, channel[0], channel[1])

    def judge(states, letters, _, places):
        if link not in places:
            return False
        return True if deeds.is_refused(channel, states, letters) else None

    return judge


def is_configuration_wanted(network, configuration, judge):
    """Whether a configuration is wanted."""
    places = list(range(len(network[0]) + len(network[1])))
    machines = places[:len(network[0])]
    return judge(configuration[0], letters_in(network, configuration), machines, places) is True


def movable_machines(network, configuration):
    """The names of the machines that can move, ascending."""
    check_network(network)
    check_configuration(network, configuration)
    deeds = Deeds(network)
    letters = letters_in(network, configuration)
    names = names_in(network)
    return tuple([name for at, name in enumerate(names) if deeds.can_move(at, configuration[0], letters)])


def is_dead_end(network, configuration):
    """Whether no machine can move and the configuration is not finished."""
    check_network(network)
    check_configuration(network, configuration)
    return is_configuration_wanted(network, configuration, dead_judge(network))


def is_finished(network, configuration):
    """Whether all states are final and all queues are empty."""
    check_network(network)
    check_configuration(network, configuration)
    return is_configuration_wanted(network, configuration, finish_judge(network))


def refusing_channels(network, configuration):
    """The channels that refuse their first letter, ascending."""
    check_network(network)
    check_configuration(network, configuration)
    deeds = Deeds(network)
    letters = letters_in(network, configuration)
    return tuple([channel for channel in channels_in(network) if deeds.is_refused(channel, configuration[0], letters)])


def told_of(network, part, judge):
    """What a judge tells of the rows of a part."""
    return [
        judge(row, letters_seen(network, row, part.places), part.machines, part.places)
        for row in part.all_rows
    ]


def is_any_wanted(told):
    """Whether some row of the whole is wanted, from what a judge tells of the rows of each part."""
    return all([set(answers) != {None} for answers in told]) and any([True in answers for answers in told])


def paper_for(network, start, judge):
    """Any paper that shows whether a run leads to a configuration that is wanted, with a shortest run."""
    source, parts = one_way_parts(network, start)
    if not is_any_wanted([told_of(network, part, judge) for part in parts]):
        return ("closed", views_in(source, parts))
    whole = whole_of(source, parts, MAX_VIEWS)
    told = told_of(network, whole, judge)
    run, _ = whole.nearest([number for number, answer in enumerate(told) if answer])
    return ("run", run)


def is_paper_for(network, value, start, judge):
    """Whether the value is a paper that shows whether a run leads to a configuration that is wanted."""
    source, _ = one_way_parts(network, start)
    if not is_row(value, 2):
        return False
    if value[0] == "run":
        return leads_to_wanted(network, value[1], source.start, judge)
    rows = rows_in(source, value[1]) if value[0] == "closed" else None
    if rows is None or not are_closed(source, rows):
        return False
    places = list(range(len(source.first)))
    for row in rows:
        if judge(row, letters_seen(network, row, places), source.machines, places) is True:
            return False
    return True


def leads_to_wanted(network, value, start, judge):
    """Whether the value is a run that leads to a configuration that is wanted."""
    if not isinstance(value, tuple):
        return False
    many, states, queues = walked(network, value, start)
    return many == len(value) and is_configuration_wanted(network, frozen(states, queues), judge)


def end_paper(network, *, start=None):
    """Any paper that shows whether a run leads to a dead end, with a shortest run."""
    check_network(network)
    return paper_for(network, start, dead_judge(network))


def is_end_paper(network, value, *, start=None):
    """Whether the value is an end paper."""
    check_network(network)
    return is_paper_for(network, value, start, dead_judge(network))


def check_channel(network, sender, taker):
    """Raise the errors that are due for what is no channel of what is known to be a network."""
    check_name(network, sender)
    check_name(network, taker)
    if (sender, taker) not in channels_in(network):
        raise InvalidOperation("not a channel of the network")


def refusal_paper(network, sender, taker, *, start=None):
    """Any paper that shows whether a run leads to where the channel refuses its first letter, with a shortest run."""
    check_network(network)
    check_channel(network, sender, taker)
    return paper_for(network, start, refusal_judge(network, (sender, taker)))


def is_refusal_paper(network, sender, taker, value, *, start=None):
    """Whether the value is a refusal paper of the channel."""
    check_network(network)
    check_channel(network, sender, taker)
    return is_paper_for(network, value, start, refusal_judge(network, (sender, taker)))


def finish_paper(network, *, start=None):
    """Any paper that shows whether a run leads to a finished configuration, with a shortest run."""
    check_network(network)
    return paper_for(network, start, finish_judge(network))


def is_finish_paper(network, value, *, start=None):
    """Whether the value is a finish paper."""
    check_network(network)
    return is_paper_for(network, value, start, finish_judge(network))
