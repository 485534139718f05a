"""Views: the states, and of each link only which end holds it and the first letter that lies there."""

from halflink.errors import Crossed, InvalidPath, InvalidView, TooMany
from halflink.networks.configurations import are_states_of, crossed_in, queue_in, start_in
from halflink.networks.networks import check_network, names_in, ordered_link
from halflink.runs.runs import behind_moves, found_transition, replaced
from halflink.values import is_name, is_row, is_whole_from

MAX_START = 20


def short_start(network, start):
    """The configuration in which paths begin, perhaps a crossed one; raise the errors that are due for others."""
    configuration = start_in(network, start)
    for queue in configuration[1]:
        if len(queue) > MAX_START:
            raise TooMany(MAX_START)
    return configuration


def viewed_start(network, start):
    """The configuration in which paths begin; raise the errors that are due for the parameter start."""
    configuration = short_start(network, start)
    if crossed_in(network, configuration):
        raise Crossed(())
    return configuration


def first_view(network, *, start=None):
    """The view of the start."""
    check_network(network)
    return view_of_start(network, viewed_start(network, start))


def view_of_start(network, start):
    """The first view from what is known to be an uncrossed configuration."""
    if not any(start[1]):
        return (start[0], ((),) * len(network[1]))
    return (start[0], tuple([start_hold(network, start, link) for link in network[1]]))


def start_hold(network, start, link):
    """The hold of a link by the end from which letters of the start lie in it, if there are any."""
    for sender, taker in (link, (link[1], link[0])):
        queue = queue_in(network, start, sender, taker)
        if queue:
            return rest_hold(sender, queue, len(queue))
    return ()


def rest_hold(sender, queue, left):
    """The hold with the last letters of a queue of the start."""
    return (sender, queue[len(queue) - left], left) if left > 0 else ()


def is_view(network, value, *, start=None):
    """Whether the value is a view."""
    check_network(network)
    return is_view_from(network, value, viewed_start(network, start))


def is_view_from(network, value, start):
    """Whether the value is a view from this start."""
    return is_loose_view(network, value) and all([
        hold == () or hold[2] == 0 or is_rest_hold(network, hold, start, link)
        for hold, link in zip(value[1], network[1])
    ])


def is_rest_hold(network, hold, start, link):
    """Whether the hold of a link is one with the last letters of a queue of the start."""
    sender, _, left = hold
    queue = queue_in(network, start, sender, other_end(link, sender))
    return left <= len(queue) and hold == rest_hold(sender, queue, left)


def is_loose_view(network, value):
    """Whether the value is a view from any start."""
    if not is_row(value, 2):
        return False
    states, holds = value
    return are_states_of(network, states) and is_row(holds, len(network[1])) and all([
        is_loose_hold(hold, link) for hold, link in zip(holds, network[1])
    ])


def is_loose_hold(value, link):
    """Whether the value is a hold of the link from any start."""
    return is_row(value, 0) or (
        is_row(value, 3)
        and value[0] in link
        and is_name(value[1])
        and is_whole_from(value[2], 0, MAX_START)
    )


def other_end(link, name):
    """The end of the link that has not this name."""
    return link[1] if link[0] == name else link[0]


def linked_at(network, one, other):
    """The place of the link between two machines in the holds of a view."""
    return network[1].index(ordered_link(one, other))


def ready_deed(network, view, name, index, word):
    """The place of the machine, and deed and next state of its transition, if it can do it now and it has this word."""
    found = found_transition(network, name, index)
    if found is None:
        return None
    at, (before, deed, behind) = found
    if view[0][at] != before or deed[0] != word:
        return None
    return (at, deed, behind)


def behind_act(network, start, view, value):
    """The view behind an act, or None if the value is not a possible act."""
    if is_row(value, 5) and value[0] == "hand":
        return behind_hand(network, view, value)
    if not is_row(value, 3):
        return None
    if value[0] == "step":
        return behind_step(network, view, value)
    if value[0] == "take":
        return behind_take(network, start, view, value)
    if value[0] == "post":
        return behind_post(network, view, value)
    return None


def behind_step(network, view, act):
    """The view behind a step, or None."""
    ready = ready_deed(network, view, act[1], act[2], "step")
    if ready is None:
        return None
    return (replaced(view[0], ready[0], ready[2]), view[1])


def behind_take(network, start, view, act):
    """The view behind a take, or None: only letters of the start are taken so."""
    ready = ready_deed(network, view, act[1], act[2], "take")
    if ready is None:
        return None
    at, (_, sender, letter), behind = ready
    place = linked_at(network, act[1], sender)
    hold = view[1][place]
    if hold[:2] != (sender, letter) or hold[2] == 0:
        return None
    rest = rest_hold(sender, queue_in(network, start, sender, act[1]), hold[2] - 1)
    return (replaced(view[0], at, behind), replaced(view[1], place, rest))


def behind_hand(network, view, act):
    """The view behind a hand, or None."""
    _, name, index, other, number = act
    sending = ready_deed(network, view, name, index, "send")
    taking = ready_deed(network, view, other, number, "take")
    if sending is None or taking is None:
        return None
    letter = sending[1][2]
    if sending[1][1] != other or taking[1][1:] != (name, letter) or view[1][linked_at(network, name, other)] != ():
        return None
    states = replaced(view[0], sending[0], sending[2])
    return (replaced(states, taking[0], taking[2]), view[1])


def behind_post(network, view, act):
    """The view behind a post, or None."""
    ready = ready_deed(network, view, act[1], act[2], "send")
    if ready is None:
        return None
    at, (_, other, letter), behind = ready
    place = linked_at(network, act[1], other)
    hold = view[1][place]
    if hold != () and hold[0] != act[1]:
        return None
    first = letter if hold == () else hold[1]
    return (replaced(view[0], at, behind), replaced(view[1], place, (act[1], first, 0)))


def ways_between_views(network, start, view):
    """The list of pairs of a possible act and the view behind it, ascending by the acts."""
    ready = [
        (name, index, transition[1])
        for state, (name, machine) in zip(view[0], network[0])
        for index, transition in enumerate(machine[2])
        if transition[0] == state
    ]
    acts = [act for name, index, deed in ready for act in acts_with(name, index, deed, ready)]
    pairs = [(act, behind_act(network, start, view, act)) for act in sorted(acts)]
    return [pair for pair in pairs if pair[1] is not None]


def acts_with(name, index, deed, ready):
    """The acts that a machine can perhaps do by this transition, with the ready transitions of the others."""
    if deed[0] != "send":
        return [(deed[0], name, index)]
    wanted = ("take", name, deed[2])
    hands = [
        ("hand", name, index, other, number)
        for other, number, taking in ready
        if other == deed[1] and taking == wanted
    ]
    return [("post", name, index)] + hands


def possible_acts(network, view, *, start=None):
    """Pairs of an act and the view behind it, for all possible acts, ascending."""
    check_network(network)
    first = viewed_start(network, start)
    if not is_view_from(network, view, first):
        raise InvalidView("not a view of the network")
    for pair in ways_between_views(network, first, view):
        yield pair


def is_exposed(network, view):
    """Whether the other end of a held link can send over it."""
    check_network(network)
    if not is_loose_view(network, view):
        raise InvalidView("not a view of the network")
    return is_exposed_in(network, view)


def is_exposed_in(network, view):
    """Whether what is known to be a view is exposed."""
    return any([
        hold != () and can_send(network, view, other_end(link, hold[0]), hold[0])
        for hold, link in zip(view[1], network[1])
    ])


def can_send(network, view, name, other):
    """Whether the machine has a send to the other one in its state."""
    at = names_in(network).index(name)
    transitions = network[0][at][1][2]
    return any([
        before == view[0][at] and deed[:2] == ("send", other)
        for before, deed, _ in transitions
    ])


def behind_acts(network, path, start):
    """The view behind a path; raise the error that is due for the first impossible act."""
    if not isinstance(path, tuple):
        raise InvalidPath(0)
    view = view_of_start(network, start)
    for at, act in enumerate(path):
        view = behind_act(network, start, view, act)
        if view is None:
            raise InvalidPath(at)
    return view


def is_path(network, value, *, start=None):
    """Whether the value is a path."""
    check_network(network)
    first = viewed_start(network, start)
    try:
        behind_acts(network, value, first)
    except InvalidPath:
        return False
    return True


def view_after(network, path, *, start=None):
    """The view to which the path leads."""
    check_network(network)
    return behind_acts(network, path, viewed_start(network, start))


def after_path(network, path, *, start=None):
    """The configuration to which the run of the path leads."""
    check_network(network)
    first = viewed_start(network, start)
    behind_acts(network, path, first)
    return behind_moves(network, run_in_acts(path), first)


def run_of_path(network, path, *, start=None):
    """The run of the path."""
    check_network(network)
    behind_acts(network, path, viewed_start(network, start))
    return run_in_acts(path)


def run_in_acts(path):
    """The moves of what is known to be a path."""
    run = []
    for act in path:
        run.append(act[1:3])
        if act[0] == "hand":
            run.append(act[3:])
    return tuple(run)


def weight_of(network, path, *, start=None):
    """The number of moves of the run of the path."""
    check_network(network)
    behind_acts(network, path, viewed_start(network, start))
    return len(run_in_acts(path))
