"""Runners: the moves of a run, done one by one."""

from halflink.errors import InvalidNumber, InvalidOperation, TooMany
from halflink.networks.configurations import start_in
from halflink.networks.networks import check_network
from halflink.runs.runs import behind_move, check_moves, configurations_behind, moves_in
from halflink.values import is_whole_from


class Runner:
    """A run of a network that moves are added to and undone from."""

    LONGEST = 1000

    def __init__(self, network, *, start=None):
        check_network(network)
        self._network = network
        self._moves = ()
        self._passed = [start_in(network, start)]

    @classmethod
    def along(cls, network, run, start):
        """A runner with this run."""
        runner = cls(network, start=start)
        runner.put(run)
        return runner

    @property
    def now(self):
        """The present configuration."""
        return self._passed[-1]

    @property
    def next_moves(self):
        """The possible moves, ascending."""
        return tuple(moves_in(self._network, self.now))

    @property
    def done_moves(self):
        """The run so far; a run that is assigned is put in its place."""
        return self._moves

    @done_moves.setter
    def done_moves(self, value):
        self.put(value)

    def put(self, run):
        """Put the run in the place of the run so far, and return the configuration."""
        return self._put_behind(0, run)

    def do(self, *moves):
        """Do the moves in order, all or none, and return the configuration."""
        return self.do_all(moves)

    def do_all(self, moves):
        """Do the moves of a tuple in order, all or none, and return the configuration."""
        return self._put_behind(len(self._moves), moves)

    def _put_behind(self, kept, moves):
        """Let the moves follow the first kept ones of the run, and return the configuration."""
        check_moves(self._network, moves, self._passed[kept])
        if kept + len(moves) > self.LONGEST:
            raise TooMany(self.LONGEST)
        passed = configurations_behind(self._network, moves, self._passed[kept])
        self._moves = self._moves[:kept] + moves
        self._passed = self._passed[:kept] + passed
        return self.now

    def back(self, many=1):
        """Undo the last moves, and return the configuration."""
        if not is_whole_from(many, 0, len(self._moves)):
            raise InvalidNumber(many)
        return self._put_behind(len(self._moves) - many, ())

    def __call__(self, move):
        """The configuration to which the move would lead."""
        behind = behind_move(self._network, self.now, move)
        if behind is None:
            raise InvalidOperation("not a possible move")
        return behind

    def __contains__(self, value):
        return behind_move(self._network, self.now, value) is not None

    def __getitem__(self, at):
        if not is_whole_from(at, 0, len(self._moves)):
            raise InvalidNumber(at)
        return self._passed[at]

    def __iter__(self):
        raise TypeError("a runner is not gone through")

    def __bool__(self):
        return bool(self.next_moves)

    def __len__(self):
        return len(self._moves)

    def __str__(self):
        return f"run of {len(self._moves)} moves"

    def __eq__(self, value):
        return (
            isinstance(value, Runner)
            and self._network == value._network
            and self._passed[0] == value._passed[0]
            and self._moves == value._moves
        )
