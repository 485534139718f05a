"""Runs: moves that are done one after another."""

from halflink.errors import InvalidNumber, InvalidOperation, InvalidRun
from halflink.networks.configurations import check_configuration, crossed_in, start_in
from halflink.networks.networks import channels_in, check_network
from halflink.values import is_row, is_whole_from

MAX_LENGTH = 60


def found_transition(network, value):
    """The place of the machine and the transition that a move names, or None if the value names none."""
    if not is_row(value, 2):
        return None
    name, index = value
    for at, (own, machine) in enumerate(network[0]):
        if own == name and is_whole_from(index, 0, len(machine[2]) - 1):
            return (at, machine[2][index])
    return None


def replaced(parts, at, part):
    """The tuple with another part at one place."""
    return parts[:at] + (part,) + parts[at + 1:]


def behind_move(network, configuration, value):
    """The configuration behind a move, or None if the value is not a possible move."""
    found = found_transition(network, value)
    if found is None:
        return None
    at, (before, deed, behind) = found
    states, queues = configuration
    if states[at] != before:
        return None
    if deed[0] != "step":
        queues = queues_behind(channels_in(network), queues, value[0], deed)
        if queues is None:
            return None
    return (replaced(states, at, behind), queues)


def queues_behind(channels, queues, name, deed):
    """The queues behind a send or a take of the machine, or None if the letter to take is not the first one."""
    word, other, letter = deed
    if word == "send":
        place = channels.index((name, other))
        return replaced(queues, place, queues[place] + (letter,))
    place = channels.index((other, name))
    if queues[place][:1] != (letter,):
        return None
    return replaced(queues, place, queues[place][1:])


def ways_on(network, configuration):
    """The list of pairs of a possible move and the configuration behind it, ascending by the moves."""
    moves = [
        (name, index)
        for state, (name, machine) in zip(configuration[0], network[0])
        for index, transition in enumerate(machine[2])
        if transition[0] == state
    ]
    pairs = [(move, behind_move(network, configuration, move)) for move in moves]
    return [pair for pair in pairs if pair[1] is not None]


def moves_in(network, configuration):
    """The list of the possible moves, ascending."""
    return [move for move, _ in ways_on(network, configuration)]


def possible_moves(network, configuration):
    """All possible moves, ascending."""
    check_network(network)
    check_configuration(network, configuration)
    for move in moves_in(network, configuration):
        yield move


def after_move(network, configuration, move):
    """The configuration behind a possible move."""
    check_network(network)
    check_configuration(network, configuration)
    behind = behind_move(network, configuration, move)
    if behind is None:
        raise InvalidOperation("not a possible move")
    return behind


def behind_moves(network, moves, start):
    """The configuration behind a tuple of moves; raise the error that is due for the first impossible one."""
    if not isinstance(moves, tuple):
        raise InvalidRun(0)
    configuration = start
    for at, move in enumerate(moves):
        configuration = behind_move(network, configuration, move)
        if configuration is None:
            raise InvalidRun(at)
    return configuration


def configurations_behind(network, run, start):
    """The list of the configurations on what is known to be a run."""
    passed = [start]
    for move in run:
        passed.append(behind_move(network, passed[-1], move))
    return passed


def is_run(network, value, *, start=None):
    """Whether the value is a run."""
    check_network(network)
    return is_run_from(network, value, start_in(network, start))


def is_run_from(network, value, start):
    """Whether the value is a run from what is known to be a configuration."""
    try:
        behind_moves(network, value, start)
    except InvalidRun:
        return False
    return True


def after_run(network, run, *, start=None):
    """The configuration to which the run leads."""
    check_network(network)
    return behind_moves(network, run, start_in(network, start))


def configurations_on(network, run, *, start=None):
    """All configurations on the run, the first and the last one included."""
    check_network(network)
    first = start_in(network, start)
    behind_moves(network, run, first)
    return tuple(configurations_behind(network, run, first))


def first_crossing(network, run, *, start=None):
    """The least number of moves of the run behind which a link is crossed, or None."""
    check_network(network)
    configuration = start_in(network, start)
    behind_moves(network, run, configuration)
    if crossed_in(network, configuration):
        return 0
    for at, move in enumerate(run):
        configuration = behind_move(network, configuration, move)
        if crossed_in(network, configuration):
            return at + 1
    return None


def all_runs(network, *, length, start=None):
    """All runs with this number of moves, ascending, each found when it is asked for."""
    check_network(network)
    if not is_whole_from(length, 0, MAX_LENGTH):
        raise InvalidNumber(length)
    first = start_in(network, start)
    yield from runs_from(network, first, length, {})


def runs_from(network, configuration, length, barren):
    """All runs with this number of moves from the configuration, ascending."""
    if length == 0:
        yield ()
        return
    found = False
    left = length - 1
    for move, behind in ways_on(network, configuration):
        if barren.get(behind, left + 1) > left:
            for run in runs_from(network, behind, left, barren):
                found = True
                yield (move,) + run
    if not found:
        # Many runs lead to one configuration: what has no run of this length is searched only once.
        barren[configuration] = length
