"""Arrangements: paths whose runs have the logs of a given run."""

from halflink.errors import Crossed, InvalidPath
from halflink.networks.networks import check_network, names_in
from halflink.runs.logs import logs_in, messages_in
from halflink.runs.runs import check_moves, crossing_on
from halflink.views.views import behind_acts, run_in_acts, viewed_start


def arrangement_of(network, run, *, start=None):
    """Any arrangement of the run."""
    check_network(network)
    first = viewed_start(network, start)
    check_moves(network, run, first)
    crossing = crossing_on(network, run, first)
    if crossing is not None:
        raise Crossed(run[:crossing])
    return arranged(network, logs_in(network, run), first)


def arranged(network, logs, start):
    """The path with the logs of what is known to be a run that crosses no link."""
    names = names_in(network)
    messages = messages_in(network, logs, start)
    # A post makes the letters of the start that lie before it untakeable, so it waits for those that are taken.
    untaken = {}
    for sender, taker, _, sent, taken in messages:
        if sent is None and taken is not None:
            untaken[sender, taker] = untaken.get((sender, taker), 0) + 1
    events = events_by_machine(network, logs, messages)
    places = {name: 0 for name in names}
    path = []
    left = sum([len(log) for log in logs])
    while left > 0:
        for name in names:
            while places[name] < len(events[name]):
                act = possible_event(events, places, untaken, name)
                if act is None:
                    break
                path.append(act)
                left -= done_event(events, places, untaken, name)
    return tuple(path)


def events_by_machine(network, logs, messages):
    """For each machine, the list of what it does, with the messages that it sends and takes.

    Each is a tuple of the word, the index, the other machine and the place in its log of the other end of the message.
    """
    events = {}
    for (name, machine), log in zip(network[0], logs):
        events[name] = [(machine[2][index][1][0], index, None, None) for index in log]
    for sender, taker, _, sent, taken in messages:
        if sent is not None:
            _, index, _, _ = events[sender][sent]
            events[sender][sent] = ("send", index, taker, taken)
        if taken is not None:
            _, index, _, _ = events[taker][taken]
            events[taker][taken] = ("take", index, sender, sent)
    return events


def possible_event(events, places, untaken, name):
    """The act with which the machine goes on in its log now, or None if it waits for another one."""
    word, index, other, far = events[name][places[name]]
    if word == "step":
        return ("step", name, index)
    if word == "take":
        # Other letters than those of the start are taken when they are sent.
        return ("take", name, index) if far is None else None
    if far is None:
        return ("post", name, index) if untaken.get((name, other), 0) == 0 else None
    if places[other] != far:
        return None
    return ("hand", name, index, other, events[other][far][1])


def done_event(events, places, untaken, name):
    """Note that the machine went on, and return the number of its moves and of those of the other machine."""
    word, _, other, far = events[name][places[name]]
    places[name] += 1
    if word == "take":
        untaken[other, name] -= 1
    if word == "send" and far is not None:
        places[other] += 1
        return 2
    return 1


def is_arrangement(network, run, value, *, start=None):
    """Whether the value is an arrangement of the run."""
    check_network(network)
    first = viewed_start(network, start)
    check_moves(network, run, first)
    try:
        behind_acts(network, value, first)
    except InvalidPath:
        return False
    return logs_in(network, run_in_acts(value)) == logs_in(network, run)
