"""Schedulers: each chooses one of some moves when it is called with them."""

from halflink.errors import InvalidOperation
from halflink.networks.networks import check_network
from halflink.runs.runs import are_moves
from halflink.values import are_names, is_ascending

# Letters that lie there are taken before anything else is done, and sent only if nothing else can be done.
QUIET_WORDS = ("take", "step", "send")


def check_choice(moves):
    """Raise the error that is due for what is no non-empty ascending tuple of moves."""
    if not are_moves(moves) or not moves or not is_ascending(moves):
        raise InvalidOperation("not an ascending tuple of moves")


def move_in_turn(moves, last):
    """The first move of the machine whose turn it is behind the last one."""
    later = [move for move in moves if move[0] > last]
    return later[0] if later else moves[0]


def words_of_moves(network):
    """The words of the deeds of all moves of the network, under the moves."""
    return {
        (name, index): deed[0]
        for name, machine in network[0]
        for index, (_, deed, _) in enumerate(machine[2])
    }


def quiet_moves(words, moves):
    """The list of the takes among the moves, or of the steps, or of the sends; raise the error for unknown moves."""
    if not all([move in words for move in moves]):
        raise InvalidOperation("a move that the network does not have")
    kinds = [[move for move in moves if words[move] == word] for word in QUIET_WORDS]
    return [kind for kind in kinds if kind][0]


class Scheduler:
    """Chooses the first move."""

    def __call__(self, moves):
        check_choice(moves)
        return moves[0]

    def __str__(self):
        return "first"

    def copied(self):
        """A scheduler that goes on as this one does."""
        return Scheduler()


class Last(Scheduler):
    """Chooses the last move."""

    def __call__(self, moves):
        check_choice(moves)
        return moves[-1]

    def __str__(self):
        return "last"

    def copied(self):
        """A scheduler that goes on as this one does."""
        return Last()


class Turns(Scheduler):
    """Lets one machine after the other do its first move."""

    def __init__(self):
        # The empty string is smaller than all names.
        self._last = ""

    def __call__(self, moves):
        check_choice(moves)
        move = move_in_turn(moves, self._last)
        self._last = move[0]
        return move

    def __str__(self):
        return "turns"

    def copied(self):
        """A scheduler that goes on as this one does."""
        scheduler = Turns()
        scheduler._last = self._last
        return scheduler


class Quiet(Scheduler):
    """Chooses the first take, or the first step without takes, or the first send without both."""

    def __init__(self, network):
        check_network(network)
        self._network = network
        self._words = words_of_moves(network)

    def __call__(self, moves):
        check_choice(moves)
        return quiet_moves(self._words, moves)[0]

    def __str__(self):
        return "quiet"

    def copied(self):
        """A scheduler that goes on as this one does."""
        return Quiet(self._network)


class QuietTurns(Quiet, Turns):
    """Chooses by turns among the takes, or the steps without takes, or the sends without both."""

    def __init__(self, network):
        super().__init__(network)
        self._last = ""

    def __call__(self, moves):
        check_choice(moves)
        move = move_in_turn(quiet_moves(self._words, moves), self._last)
        self._last = move[0]
        return move

    def __str__(self):
        return "quiet turns"

    def copied(self):
        """A scheduler that goes on as this one does."""
        scheduler = QuietTurns(self._network)
        scheduler._last = self._last
        return scheduler


class Named(Scheduler):
    """Chooses the first move of the machine that stands first among some names, or the first move of all."""

    def __init__(self, *names):
        if not are_names(names):
            raise InvalidOperation("not names")
        self._names = names

    @classmethod
    def by(cls, names):
        """The scheduler with a tuple of names."""
        if not isinstance(names, tuple):
            raise InvalidOperation("not a tuple of names")
        return cls(*names)

    def __call__(self, moves):
        check_choice(moves)
        for name in self._names:
            own = [move for move in moves if move[0] == name]
            if own:
                return own[0]
        return moves[0]

    def __str__(self):
        return " ".join(["named", *self._names])

    def copied(self):
        """A scheduler that goes on as this one does."""
        return Named(*self._names)


class Alternating(Scheduler):
    """Asks copies of two schedulers by turns."""

    def __init__(self, one, two):
        if not isinstance(one, Scheduler) or not isinstance(two, Scheduler):
            raise InvalidOperation("not two schedulers")
        self._next = one.copied()
        self._other = two.copied()
        self._titles = [str(one), str(two)]

    def __call__(self, moves):
        check_choice(moves)
        asked = self._next
        move = asked(moves)
        self._next, self._other = self._other, asked
        return move

    def __str__(self):
        return " and ".join(self._titles)

    def copied(self):
        """A scheduler that goes on as this one does."""
        scheduler = Alternating(self._next, self._other)
        # The one that is asked next need not be the one that was given first.
        scheduler._titles = self._titles
        return scheduler
