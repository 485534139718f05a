"""Logs: what each machine does in a run, whatever the others do in between."""

from collections import deque

from halflink.errors import InvalidLogs, InvalidNumber, InvalidOperation
from halflink.networks.configurations import queue_in, start_in
from halflink.networks.networks import channels_in, check_network, names_in
from halflink.runs.runs import check_moves, found_step, frozen, is_run_from
from halflink.values import is_row, is_whole, is_whole_from


def logs_of(network, run, *, start=None):
    """The logs of a run."""
    check_network(network)
    check_moves(network, run, start_in(network, start))
    return logs_in(network, run)


def logs_in(network, run):
    """The logs of what is known to be a run."""
    return tuple([
        tuple([index for name, index in run if name == own])
        for own in names_in(network)
    ])


def is_logs(network, value, *, start=None):
    """Whether the value is the logs of some run."""
    check_network(network)
    first = start_in(network, start)
    return joined(network, value, first) is not None


def planned(network, name, state, log):
    """What a machine in this state does by its log, as pairs of a move and its step, and its last state; or None."""
    channels = channels_in(network)
    steps = {}
    plan = []
    for index in log:
        # A boolean would be found under the index to which it is equal.
        if not is_whole(index):
            return None
        if index not in steps:
            steps[index] = ((name, index), found_step(network, channels, name, index))
        pair = steps[index]
        if pair[1] is None or pair[1][1] != state:
            return None
        state = pair[1][2]
        plan.append(pair)
    return (plan, state)


def joined(network, logs, start):
    """The run in which always the first machine that can goes on, and what is behind it; None if these are no logs."""
    if not is_row(logs, len(network[0])) or not all([isinstance(log, tuple) for log in logs]):
        return None
    plans, states = [], []
    for name, state, log in zip(names_in(network), start[0], logs):
        plan = planned(network, name, state, log)
        if plan is None:
            return None
        plans.append(plan[0])
        states.append(plan[1])
    queues = [deque(list(queue)) for queue in start[1]]
    run = merged(network, plans, queues)
    # One comes to the end of logs in whatever order this is done, so being stuck once is enough.
    if len(run) < sum([len(plan) for plan in plans]):
        return None
    return (tuple(run), frozen(states, queues))


def merged(network, plans, queues):
    """The list of the moves that always the first machine that can does, until none can; the queues change."""
    names = names_in(network)
    takers = [names.index(taker) for _, taker in channels_in(network)]
    places = [0 for _ in plans]
    run = []
    at = 0
    while at < len(plans):
        plan, done = plans[at], places[at]
        if done == len(plan):
            at += 1
            continue
        move, (_, _, _, word, place, letter) = plan[done]
        if word == "take":
            queue = queues[place]
            if not queue or queue[0] != letter:
                at += 1
                continue
            queue.popleft()
        run.append(move)
        places[at] = done + 1
        if word == "send":
            queues[place].append(letter)
            # Of the machines that were passed over, only the taker can perhaps go on now.
            at = min(at, takers[place])
    return run


def checked_run(network, logs, start):
    """The run that puts the logs together, and what is behind it; raise the error that is due for what is not logs."""
    run = joined(network, logs, start)
    if run is None:
        raise InvalidLogs("not the logs of a run")
    return run


def put_together(network, logs, *, start=None):
    """The run with these logs in which always the first machine that can goes on."""
    check_network(network)
    return checked_run(network, logs, start_in(network, start))[0]


def after_logs(network, logs, *, start=None):
    """The configuration to which all runs with these logs lead."""
    check_network(network)
    return checked_run(network, logs, start_in(network, start))[1]


def is_crossing_logs(network, value, *, start=None):
    """Whether the value is logs whose runs cross a link."""
    check_network(network)
    first = start_in(network, start)
    if joined(network, value, first) is None:
        return False
    return found_crossing(network, value, first) is not None


def messages_of(network, logs, *, start=None):
    """The messages of the logs, by channels, and in the order of each queue."""
    check_network(network)
    first = start_in(network, start)
    checked_run(network, logs, first)
    return messages_in(network, logs, first)


def messages_in(network, logs, start):
    """The messages of what is known to be logs."""
    messages = []
    for sender, taker in channels_in(network):
        messages.extend(channel_messages(network, logs, start, (sender, taker)))
    return tuple(messages)


def channel_messages(network, logs, start, channel):
    """The list of the messages of one channel."""
    sender, taker = channel
    waiting = [(letter, None) for letter in queue_in(network, start, sender, taker)]
    sent = waiting + places_of(network, logs, sender, "send", taker)
    taken = [at for _, at in places_of(network, logs, taker, "take", sender)]
    untaken = [None for _ in sent[len(taken):]]
    return [
        (sender, taker, letter, at, behind)
        for (letter, at), behind in zip(sent, taken + untaken)
    ]


def places_of(network, logs, name, word, other):
    """The list of pairs of a letter and a place in the machine's log where it is sent to, or taken from, the other."""
    at = names_in(network).index(name)
    letters = {
        index: deed[2]
        for index, (_, deed, _) in enumerate(network[0][at][1][2])
        if deed[:2] == (word, other)
    }
    return [(letters[index], place) for place, index in enumerate(logs[at]) if index in letters]


def is_sent_first(sent, taken):
    """Whether a machine's send at one place of its log stands before its take at another place."""
    # Letters of the start are sent before everything, and letters left over are taken behind everything.
    return sent is None or taken is None or sent < taken


def are_crossing(one, other):
    """Whether two messages of opposite channels of one link are a crossing pair."""
    return is_sent_first(one[3], other[4]) and is_sent_first(other[3], one[4])


def found_crossing(network, logs, start):
    """Any crossing pair of what is known to be logs, or None."""
    for one, other in network[1]:
        there = channel_messages(network, logs, start, (one, other))
        back = channel_messages(network, logs, start, (other, one))
        pair = crossing_on_link(there, back)
        if pair is not None:
            return pair
    return None


def crossing_on_link(there, back):
    """Any crossing pair of the messages of one link, or None."""
    many = 0
    for message in there:
        while many < len(back) and is_sent_first(back[many][3], message[4]):
            many += 1
        # Of the messages back that are sent early enough the last one is taken last.
        if many > 0 and are_crossing(message, back[many - 1]):
            return (message, back[many - 1])
    return None


def crossing_pair(network, logs, *, start=None):
    """Any crossing pair of the logs, or None."""
    check_network(network)
    first = start_in(network, start)
    checked_run(network, logs, first)
    return found_crossing(network, logs, first)


def is_crossing_pair(network, logs, value, *, start=None):
    """Whether the value is a crossing pair of the logs."""
    check_network(network)
    first = start_in(network, start)
    checked_run(network, logs, first)
    messages = messages_in(network, logs, first)
    if not is_row(value, 2) or not all([is_message(part, messages) for part in value]):
        return False
    one, other = value
    return one[:2] == (other[1], other[0]) and are_crossing(one, other)


def is_message(value, messages):
    """Whether the value is one of the messages."""
    # A boolean is equal to an integer, but it is not a position.
    return is_row(value, 5) and all([at is None or is_whole(at) for at in value[3:]]) and value in messages


def exchanged_run(network, run, at, *, start=None):
    """The run in which the moves at a position and behind it have changed places."""
    check_network(network)
    first = start_in(network, start)
    check_moves(network, run, first)
    if not is_whole_from(at, 0, len(run) - 2):
        raise InvalidNumber(at)
    early, late = run[at:at + 2]
    exchanged = run[:at] + (late, early) + run[at + 2:]
    if early[0] == late[0] or not is_run_from(network, exchanged, first):
        raise InvalidOperation("the moves cannot be exchanged")
    return exchanged


def check_alike_runs(network, first, second, start):
    """Raise the error that is due for what is no run, and for runs with different logs."""
    check_moves(network, first, start)
    check_moves(network, second, start)
    if logs_in(network, first) != logs_in(network, second):
        raise InvalidLogs("the logs of the two runs differ")


def events_in(run):
    """The list of the moves of a run, each as its machine and its place in the log of the machine."""
    places = {name: 0 for name, _ in run}
    events = []
    for name, _ in run:
        events.append((name, places[name]))
        places[name] += 1
    return events


def exchanges_between(network, first, second, *, start=None):
    """Any shortest tuple of positions at which exchanges lead from the first run to the second one."""
    check_network(network)
    check_alike_runs(network, first, second, start_in(network, start))
    events = events_in(first)
    positions = []
    # Only moves that stand in the wrong order are exchanged, each two of them once.
    for at, event in enumerate(events_in(second)):
        found = events.index(event, at)
        positions.extend(list(range(found - 1, at - 1, -1)))
        events.insert(at, events.pop(found))
    return tuple(positions)


def is_exchanges(network, first, second, value, *, start=None):
    """Whether the value is a tuple of positions at which exchanges lead from the first run to the second one."""
    check_network(network)
    begin = start_in(network, start)
    check_alike_runs(network, first, second, begin)
    if not isinstance(value, tuple):
        return False
    messages = messages_in(network, logs_in(network, first), begin)
    causes = {(taker, taken): (sender, sent) for sender, taker, _, sent, taken in messages}
    events = events_in(first)
    for at in value:
        if not is_whole_from(at, 0, len(events) - 2):
            return False
        early, late = events[at], events[at + 1]
        # A letter cannot be taken before it is sent; nothing else keeps two machines in order.
        if early[0] == late[0] or causes.get(late) == early:
            return False
        events[at], events[at + 1] = late, early
    return events == events_in(second)
