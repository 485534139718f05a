"""Engines: runs within bounds that go on."""

from halflink.engine.schedulers import Scheduler
from halflink.engine.within import (
    behind_within, bounded_start, check_capacity, check_most, check_within, steps_by_state, ways_within,
)
from halflink.errors import InvalidNumber, InvalidOperation, InvalidRun
from halflink.networks.configurations import letters_lying
from halflink.values import is_whole_from

MAX_STEPS = 1000


class Engine:
    """A run of a network within bounds, to which moves are added and from which they are taken back."""

    def __init__(self, network, *, capacity=1, most=None, start=None):
        first = bounded_start(network, capacity, most, start)
        self._network = network
        self._capacity = capacity
        self._most = most
        self._table = steps_by_state(network)
        self._steps = {move: step for rows in self._table for row in rows for move, step in row}
        self._moves = []
        self._passed = [first]

    @property
    def now(self):
        """The present configuration."""
        return self._passed[-1]

    @property
    def done_moves(self):
        """The run so far."""
        return tuple(self._moves)

    @property
    def next_moves(self):
        """The possible moves to configurations within the bounds, ascending."""
        return tuple([move for move, _ in self._ways_from(self.now)])

    @property
    def capacity(self):
        """The greatest number of letters in one queue."""
        return self._capacity

    @capacity.setter
    def capacity(self, value):
        self.change(capacity=value, most=self._most)

    @property
    def most(self):
        """The greatest number of letters in all queues, or None."""
        return self._most

    @most.setter
    def most(self, value):
        self.change(capacity=self._capacity, most=value)

    def change(self, *, capacity, most):
        """Put other bounds in the place of both."""
        check_capacity(capacity)
        check_most(most)
        check_within(self.now, capacity, most)
        self._capacity = capacity
        self._most = most

    def _ways_from(self, configuration):
        """The next moves from a configuration, and the configurations behind them."""
        return ways_within(self._table, configuration, self._capacity, self._most)

    def do(self, *moves):
        """Do the moves in order, all or none, and return the configuration."""
        return self.do_all(moves)

    def do_all(self, moves):
        """Do the moves of a tuple in order, all or none, and return the configuration."""
        if not isinstance(moves, tuple):
            raise InvalidRun(0)
        passed = []
        here = self.now
        for at, move in enumerate(moves):
            here = behind_within(self._steps, here, move, self._capacity, self._most)
            if here is None:
                raise InvalidRun(at)
            passed.append(here)
        return self._put(list(moves), passed)

    def _put(self, moves, passed):
        """Let the moves, with the configurations behind them, follow the run so far, and return the last of these."""
        self._moves.extend(moves)
        self._passed.extend(passed)
        return self.now

    def go(self, scheduler, *, steps=1):
        """Do up to so many moves that the scheduler chooses, and return the tuple of them."""
        if not isinstance(scheduler, Scheduler):
            raise InvalidOperation("not a scheduler")
        if not is_whole_from(steps, 0, MAX_STEPS):
            raise InvalidNumber(steps)
        moves, passed = [], []
        here = self.now
        while len(moves) < steps:
            ways = dict(self._ways_from(here))
            if not ways:
                break
            move = scheduler(tuple(list(ways)))
            here = ways[move]
            moves.append(move)
            passed.append(here)
        # Nothing is done before the last move is chosen, as the scheduler may raise an error.
        self._put(moves, passed)
        return tuple(moves)

    def back(self, many=1):
        """Undo the last moves, and return the configuration."""
        if not is_whole_from(many, 0, len(self._moves)):
            raise InvalidNumber(many)
        kept = len(self._moves) - many
        del self._moves[kept:]
        del self._passed[kept + 1:]
        return self.now

    def __contains__(self, value):
        return behind_within(self._steps, self.now, value, self._capacity, self._most) is not None

    def __getitem__(self, at):
        if not is_whole_from(at, 0, len(self._moves)):
            raise InvalidNumber(at)
        return self._passed[at]

    def __iter__(self):
        raise TypeError("an engine is not gone through")

    def __bool__(self):
        return bool(self.next_moves)

    def __len__(self):
        return len(self._moves)

    def __str__(self):
        return f"engine after {len(self._moves)} moves, {letters_lying(self.now)} letters"

    def __eq__(self, value):
        return (
            isinstance(value, Engine)
            and self._network == value._network
            and self._capacity == value._capacity
            and self._most == value._most
            and self._passed[0] == value._passed[0]
            and self._moves == value._moves
        )
