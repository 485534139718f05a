"""Runs: moves that are done one after another."""

from collections import deque

from halflink.errors import InvalidNumber, InvalidOperation, InvalidRun
from halflink.machines.machines import MAX_TRANSITIONS
from halflink.networks.configurations import check_configuration, crossed_in, start_in
from halflink.networks.networks import channels_in, check_network
from halflink.values import is_name, is_row, is_whole, is_whole_from

MAX_LENGTH = 60


def are_moves(value):
    """Whether the value is a tuple of moves that some network can have."""
    return isinstance(value, tuple) and all([
        is_row(move, 2) and is_name(move[0]) and is_whole_from(move[1], 0, MAX_TRANSITIONS - 1)
        for move in value
    ])


def found_transition(network, name, index):
    """The place of the machine with this name, and its transition with this index, or None if there is none."""
    if not is_whole(index):
        return None
    for at, (own, machine) in enumerate(network[0]):
        if own == name:
            return (at, machine[2][index]) if 0 <= index < len(machine[2]) else None
    return None


def found_step(network, channels, name, index):
    """What the machine with this name does by this index, or None if it has no such transition.

    The place of the machine, the state before and behind, the word of the deed, and the place of the queue and the
    letter, which are None for a step.
    """
    found = found_transition(network, name, index)
    if found is None:
        return None
    at, (before, deed, behind) = found
    if deed[0] == "step":
        return (at, before, behind, "step", None, None)
    word, other, letter = deed
    channel = (name, other) if word == "send" else (other, name)
    return (at, before, behind, word, channels.index(channel), letter)


def replaced(parts, at, part):
    """The tuple with another part at one place."""
    return parts[:at] + (part,) + parts[at + 1:]


def behind_move(network, configuration, value):
    """The configuration behind a move, or None if the value is not a possible move."""
    if not isinstance(value, tuple) or len(value) != 2:
        return None
    step = found_step(network, channels_in(network), value[0], value[1])
    if step is None:
        return None
    return behind_step_of(configuration, step)


def behind_step_of(configuration, step):
    """The configuration behind what a move does, or None if it is not possible."""
    at, before, behind, word, place, letter = step
    states, queues = configuration
    if states[at] != before:
        return None
    if word == "send":
        queues = replaced(queues, place, queues[place] + (letter,))
    elif word == "take":
        if queues[place][:1] != (letter,):
            return None
        queues = replaced(queues, place, queues[place][1:])
    return (replaced(states, at, behind), queues)


def ways_on(network, configuration):
    """The list of pairs of a possible move and the configuration behind it, ascending by the moves."""
    moves = [
        (name, index)
        for state, (name, machine) in zip(configuration[0], network[0])
        for index, transition in enumerate(machine[2])
        if transition[0] == state
    ]
    pairs = [(move, behind_move(network, configuration, move)) for move in moves]
    return [pair for pair in pairs if pair[1] is not None]


def moves_in(network, configuration):
    """The list of the possible moves, ascending."""
    return [move for move, _ in ways_on(network, configuration)]


def possible_moves(network, configuration):
    """All possible moves, ascending."""
    check_network(network)
    check_configuration(network, configuration)
    for move in moves_in(network, configuration):
        yield move


def after_move(network, configuration, move):
    """The configuration behind a possible move."""
    check_network(network)
    check_configuration(network, configuration)
    behind = behind_move(network, configuration, move)
    if behind is None:
        raise InvalidOperation("not a possible move")
    return behind


def walked(network, moves, start):
    """How many of the moves are possible, one after another, and the states and queues behind these."""
    states = list(start[0])
    queues = [deque(list(queue)) for queue in start[1]]
    channels = channels_in(network)
    steps = {}
    for many, move in enumerate(moves):
        if not isinstance(move, tuple) or len(move) != 2:
            return (many, states, queues)
        name, index = move
        # A boolean would be found under the index to which it is equal.
        if not isinstance(name, str) or not (type(index) is int or is_whole(index)):
            return (many, states, queues)
        if move not in steps:
            steps[move] = found_step(network, channels, name, index)
        step = steps[move]
        if step is None or states[step[0]] != step[1]:
            return (many, states, queues)
        at, _, behind, word, place, letter = step
        if word == "send":
            queues[place].append(letter)
        elif word == "take":
            queue = queues[place]
            if not queue or queue[0] != letter:
                return (many, states, queues)
            queue.popleft()
        states[at] = behind
    return (len(moves), states, queues)


def frozen(states, queues):
    """The configuration with a list of states and a list of deques of letters."""
    return (tuple(states), tuple([tuple(list(queue)) for queue in queues]))


def check_moves(network, moves, start):
    """The states and queues behind a tuple of moves; raise the error that is due for the first impossible one."""
    if not isinstance(moves, tuple):
        raise InvalidRun(0)
    many, states, queues = walked(network, moves, start)
    if many < len(moves):
        raise InvalidRun(many)
    return (states, queues)


def behind_moves(network, moves, start):
    """The configuration behind a tuple of moves; raise the error that is due for the first impossible one."""
    states, queues = check_moves(network, moves, start)
    return frozen(states, queues)


def configurations_behind(network, run, start):
    """The list of the configurations on what is known to be a run."""
    channels = channels_in(network)
    steps = {move: found_step(network, channels, move[0], move[1]) for move in sorted(set(run))}
    states, queues = list(start[0]), list(start[1])
    passed = [start]
    for move in run:
        at, _, behind, word, place, letter = steps[move]
        states[at] = behind
        if word == "send":
            queues[place] = queues[place] + (letter,)
        elif word == "take":
            queues[place] = queues[place][1:]
        passed.append((tuple(states), tuple(queues)))
    return passed


def is_run(network, value, *, start=None):
    """Whether the value is a run."""
    check_network(network)
    return is_run_from(network, value, start_in(network, start))


def is_run_from(network, value, start):
    """Whether the value is a run from what is known to be a configuration."""
    return isinstance(value, tuple) and walked(network, value, start)[0] == len(value)


def after_run(network, run, *, start=None):
    """The configuration to which the run leads."""
    check_network(network)
    return behind_moves(network, run, start_in(network, start))


def configurations_on(network, run, *, start=None):
    """All configurations on the run, the first and the last one included."""
    check_network(network)
    first = start_in(network, start)
    check_moves(network, run, first)
    return tuple(configurations_behind(network, run, first))


def first_crossing(network, run, *, start=None):
    """The least number of moves of the run behind which a link is crossed, or None."""
    check_network(network)
    first = start_in(network, start)
    check_moves(network, run, first)
    return crossing_on(network, run, first)


def crossing_on(network, run, start):
    """The least number of moves of what is known to be a run behind which a link is crossed, or None."""
    if crossed_in(network, start):
        return 0
    channels = channels_in(network)
    opposite = [channels.index((taker, sender)) for sender, taker in channels]
    many = [len(queue) for queue in start[1]]
    steps = {move: found_step(network, channels, move[0], move[1]) for move in sorted(set(run))}
    for at, move in enumerate(run):
        _, _, _, word, place, _ = steps[move]
        if word == "send":
            many[place] += 1
            if many[opposite[place]] > 0:
                return at + 1
        elif word == "take":
            many[place] -= 1
    return None


def all_runs(network, *, length, start=None):
    """All runs with this number of moves, ascending, each found when it is asked for."""
    check_network(network)
    if not is_whole_from(length, 0, MAX_LENGTH):
        raise InvalidNumber(length)
    first = start_in(network, start)
    yield from runs_from(network, first, length, {})


def runs_from(network, configuration, length, barren):
    """All runs with this number of moves from the configuration, ascending."""
    if length == 0:
        yield ()
        return
    found = False
    left = length - 1
    for move, behind in ways_on(network, configuration):
        if barren.get(behind, left + 1) > left:
            for run in runs_from(network, behind, left, barren):
                found = True
                yield (move,) + run
    if not found:
        # Many runs lead to one configuration: what has no run of this length is searched only once.
        barren[configuration] = length
