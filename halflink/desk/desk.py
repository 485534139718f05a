"""Desks: a network and a live configuration of it, with groups of operations that can be undone."""

from halflink.asked.bounds import queue_bounds
from halflink.asked.ends import end_paper
from halflink.asked.reach import reach_paper
from halflink.desk.operations import behind_group, moves_done
from halflink.desk.unseen import are_unseen
from halflink.errors import Crossed, InvalidNumber, InvalidOperation, NothingToUndo
from halflink.machines.machines import check_machine, check_state
from halflink.networks.configurations import crossed_in, letters_lying, start_in
from halflink.networks.networks import check_name, check_network, names_in
from halflink.values import is_whole
from halflink.views.oneway import crossing_run, views_ahead
from halflink.views.parts import count_of
from halflink.views.views import short_start


class Desk:
    """A network and its configuration; each stage has a group, and what is behind it."""

    def __init__(self, network, *, start=None):
        check_network(network)
        self._stages = [((), network, start_in(network, start))]
        self._undone = []

    @classmethod
    def replayed(cls, network, groups, *, start=None):
        """A desk on which these groups were performed."""
        return with_groups(cls(network, start=start), groups)

    @property
    def network(self):
        """The network."""
        return self._stages[-1][1]

    @property
    def now(self):
        """The configuration."""
        return self._stages[-1][2]

    @property
    def crossed(self):
        """The crossed links, ascending."""
        return crossed_in(self.network, self.now)

    @property
    def done(self):
        """The number of the moves that stand."""
        return sum([moves_done(group) for group, _, _ in self._stages])

    def perform(self, *operations):
        """Perform the operations as one group, all or none, and return the number of groups that stand."""
        return self.perform_all(operations)

    def perform_all(self, operations):
        """Perform the operations of a tuple as one group, and return the number of groups that stand."""
        return self._add(operations, behind_group(self.network, self.now, operations))

    def _add(self, group, behind):
        """Let a group stand, with the network and the configuration behind it, and return the number of groups."""
        if group:
            self._stages.append((group, *behind))
            self._undone = []
        return len(self._stages) - 1

    def undo(self, many=1):
        """Undo the last groups that stand, and return the number of the others."""
        check_many(many, len(self._stages) - 1)
        for _ in range(many):
            self._undone.append(self._stages.pop())
        return len(self._stages) - 1

    def redo(self, many=1):
        """Perform again the groups that were undone last, and return the number of groups that stand."""
        check_many(many, len(self._undone))
        for _ in range(many):
            self._stages.append(self._undone.pop())
        return len(self._stages) - 1

    def log(self):
        """The groups that stand."""
        return tuple([group for group, _, _ in self._stages[1:]])

    def crossing_run(self):
        """Any shortest run to a crossing, or None."""
        return crossing_run(self.network, start=self.now)

    def reach_paper(self, configuration):
        """Any paper that shows whether a run leads to the configuration, with a shortest run."""
        return reach_paper(self.network, configuration, start=self.now)

    def end_paper(self):
        """Any paper that shows whether a run leads to a dead end, with a shortest run."""
        return end_paper(self.network, start=self.now)

    def queue_bounds(self):
        """The greatest length of each queue, or None for one without a bound."""
        return queue_bounds(self.network, start=self.now)

    def view_count(self):
        """The number of views to which paths lead, 0 from a crossed configuration."""
        start = short_start(self.network, self.now)
        if self.crossed:
            return 0
        _, parts = views_ahead(self.network, start)
        return count_of(parts)

    def is_unseen(self, name, machine, state):
        """Whether a swap would be unseen."""
        old_state = self[name]
        check_machine(machine)
        check_state(machine, state)
        return are_unseen(dict(self.network[0])[name], old_state, machine, state)

    def __contains__(self, value):
        return value in names_in(self.network)

    def __getitem__(self, name):
        check_name(self.network, name)
        return self.now[0][names_in(self.network).index(name)]

    def __iter__(self):
        raise TypeError("a desk is not gone through")

    def __len__(self):
        return len(self.network[0])

    def __str__(self):
        return f"desk with {len(self.network[0])} machines, {letters_lying(self.now)} letters"

    def __eq__(self, value):
        return (
            isinstance(value, Desk)
            and self.network == value.network
            and self.now == value.now
            and self.log() == value.log()
        )


class GuardedDesk(Desk):
    """A desk from whose configuration no crossing can be reached."""

    def __init__(self, network, *, start=None):
        super().__init__(network, start=start)
        check_guarded(self.network, self.now)

    @classmethod
    def replayed(cls, network, groups, *, start=None):
        """A guarded desk on which these groups were performed."""
        return with_groups(cls(network, start=start), groups)

    def perform(self, *operations):
        """Perform the operations as one group, if no crossing can be reached then."""
        return self.perform_all(operations)

    def perform_all(self, operations):
        """Perform the operations of a tuple as one group, if no crossing can be reached then."""
        behind = behind_group(self.network, self.now, operations)
        check_guarded(*behind)
        return self._add(operations, behind)

    def undo(self, many=1):
        """Undo the last groups that stand; what was behind a group was guarded before."""
        return super().undo(many)

    def redo(self, many=1):
        """Perform again the groups that were undone last; what is behind them was guarded before."""
        return super().redo(many)


def check_many(many, most):
    """Raise the errors that are due for what is no number of groups, and where there are fewer."""
    if not is_whole(many) or many < 0:
        raise InvalidNumber(many)
    if many > most:
        raise NothingToUndo(many)


def with_groups(desk, groups):
    """The desk, on which the groups of a tuple were performed."""
    if not isinstance(groups, tuple) or not all([isinstance(group, tuple) for group in groups]):
        raise InvalidOperation("not a tuple of tuples")
    for group in groups:
        desk.perform_all(group)
    return desk


def check_guarded(network, configuration):
    """Raise the errors that are due where a crossing can be reached."""
    run = crossing_run(network, start=configuration)
    if run is not None:
        raise Crossed(run)
