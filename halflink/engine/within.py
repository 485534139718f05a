"""Runs within bounds: no queue has more letters than the capacity, and all of them together no more than the most."""

from halflink.errors import InvalidNumber, InvalidOperation, TooMany
from halflink.networks.configurations import are_states_of, first_in, start_in
from halflink.networks.networks import channels_in, check_network
from halflink.runs.runs import behind_step_of, configurations_behind, found_step, is_run_from
from halflink.values import is_row, is_whole, is_whole_from
from halflink.views.parts import are_closed, explored_parts, rows_of, run_to_wanted
from halflink.views.ways import ViewWays, rows_in

MAX_CAPACITY = 20
MAX_MOST = 100
MAX_FOUND = 2000


def check_capacity(capacity):
    """Raise the error that is due for what is no capacity."""
    if not is_whole_from(capacity, 1, MAX_CAPACITY):
        raise InvalidNumber(capacity)


def check_most(most):
    """Raise the error that is due for what is no most."""
    if most is not None and not is_whole_from(most, 1, MAX_MOST):
        raise InvalidNumber(most)


def is_within(configuration, capacity, most):
    """Whether the configuration is within the bounds."""
    lengths = [len(queue) for queue in configuration[1]]
    return max(lengths, default=0) <= capacity and (most is None or sum(lengths) <= most)


def check_within(configuration, capacity, most):
    """Raise the error that is due for a configuration that is not within the bounds."""
    if not is_within(configuration, capacity, most):
        raise InvalidOperation("not within the bounds")


def bounded_start(network, capacity, most, start):
    """The configuration in which runs within the bounds begin; raise the errors that are due for the arguments."""
    check_network(network)
    check_capacity(capacity)
    check_most(most)
    configuration = start_in(network, start)
    check_within(configuration, capacity, most)
    return configuration


def steps_by_state(network):
    """For each machine and each of its states, the list of pairs of a move and what it does, ascending."""
    channels = channels_in(network)
    table = []
    for name, machine in network[0]:
        rows = [[] for _ in range(machine[0])]
        for index, transition in enumerate(machine[2]):
            rows[transition[0]].append(((name, index), found_step(network, channels, name, index)))
        table.append(rows)
    return table


def ways_within(table, configuration, capacity, most):
    """The list of pairs of a possible move and the configuration behind it, within the bounds, ascending."""
    found = []
    for rows, state in zip(table, configuration[0]):
        for move, step in rows[state]:
            behind = behind_step_of(configuration, step)
            if behind is not None and is_within(behind, capacity, most):
                found.append((move, behind))
    return found


def behind_within(steps, configuration, value, capacity, most):
    """The configuration behind a move, or None if the value is no possible move to one within the bounds."""
    if not is_row(value, 2) or not isinstance(value[0], str) or not is_whole(value[1]) or value not in steps:
        return None
    behind = behind_step_of(configuration, steps[value])
    return behind if behind is not None and is_within(behind, capacity, most) else None


def configurations_within(network, *, capacity=1, most=None, start=None):
    """All configurations to which runs within the bounds lead, ascending."""
    first = bounded_start(network, capacity, most, start)
    table = steps_by_state(network)
    met = {first: True}
    waiting = [first]
    while waiting:
        for _, behind in ways_within(table, waiting.pop(), capacity, most):
            if behind not in met:
                met[behind] = True
                waiting.append(behind)
        if len(met) > MAX_FOUND:
            raise TooMany(MAX_FOUND)
    for configuration in sorted(list(met)):
        yield configuration


class RowWays:
    """The source of the rows of views without letters, and of the acts that leave all queues empty."""

    def __init__(self, network):
        self._network = network
        self._views = ViewWays(network, first_in(network))
        self._free = ((),) * len(network[1])
        self.first = self._views.first
        self.machines = self._views.machines
        self.parts = self._views.parts

    def row_of(self, value):
        """The row of a tuple with a state for each machine, or None for other values."""
        return value + self._free if are_states_of(self._network, value) else None

    def states_of(self, row):
        """The tuple of the states of a row."""
        return row[:len(self.machines)]

    def ways_from(self, row, machines):
        """The steps, and the sends with the takes of their letters right after them, and the rows behind these."""
        return [way for way in self._views.ways_from(row, machines) if way[0][0] != "post"]


def check_row(network, row):
    """Raise the errors that are due for what is no row of states of a network."""
    check_network(network)
    if not are_states_of(network, row):
        raise InvalidOperation("not a tuple with a state for each machine")


def quiet_paper(network, row):
    """Any paper that shows whether a run with at most one letter at a time leads to a row of states without letters."""
    check_row(network, row)
    source = RowWays(network)
    parts = explored_parts(source, MAX_FOUND)
    run = run_to_wanted(
        source, parts, MAX_FOUND,
        lambda found, places: all([found[at] == row[at] for at in places if at < len(row)]),
    )
    if run is None:
        return ("closed", tuple([source.states_of(found) for found in sorted(rows_of(parts))]))
    return ("run", run)


def is_quiet_paper(network, row, value):
    """Whether the value is a quiet paper for the row."""
    check_row(network, row)
    if not is_row(value, 2):
        return False
    if value[0] == "run":
        return is_quiet_run(network, row, value[1])
    if value[0] != "closed":
        return False
    source = RowWays(network)
    rows = rows_in(source, value[1])
    return rows is not None and are_closed(source, rows) and row not in value[1]


def is_quiet_run(network, row, value):
    """Whether the value is a run with at most one letter at a time to the row of states without letters."""
    first = first_in(network)
    if not is_run_from(network, value, first):
        return False
    passed = configurations_behind(network, value, first)
    return passed[-1] == (row, first[1]) and all([is_within(configuration, 1, 1) for configuration in passed])
