"""Words: the sends and takes of a single machine, without its steps."""

from halflink.errors import InvalidOperation, InvalidWord
from halflink.machines.machines import EXCHANGES, check_machine, neighbours_in
from halflink.values import is_name, is_row, is_whole_from


def is_sign(value):
    """Whether the value is a sign."""
    return is_row(value, 2) and value[0] in EXCHANGES and is_name(value[1])


def is_word(value):
    """Whether the value is a word."""
    if not isinstance(value, tuple):
        return False
    # Many words repeat one sign; this first one is a sign itself.
    known = ("send", "a")
    for part in value:
        if part != known:
            if not is_sign(part):
                return False
            known = part
    return True


def check_word(word):
    """Raise the error that is due for what is no word."""
    if not is_word(word):
        raise InvalidWord("not a word")


def mirrored_sign(sign):
    """The sign that the other end of the link has."""
    word, letter = sign
    return ("take" if word == "send" else "send", letter)


def mirrored_word(word):
    """The mirror of the word."""
    check_word(word)
    return tuple([mirrored_sign(sign) for sign in word])


def check_single(machine):
    """Raise the error that is due for what is no single machine."""
    check_machine(machine)
    if len(neighbours_in(machine)) > 1:
        raise InvalidOperation("not a single machine")


def sign_of(deed):
    """The sign of a deed, or None for a step."""
    return None if deed[0] == "step" else (deed[0], deed[2])


def signed_transitions(machine):
    """For each state, the list of its transitions, as triples of an index, a sign or None, and the next state."""
    rows = [[] for _ in range(machine[0])]
    for index, (before, deed, behind) in enumerate(machine[2]):
        rows[before].append((index, sign_of(deed), behind))
    return rows


def indices_doing(machine, word):
    """Any shortest tuple of transition indices by which the machine does the word, or None."""
    check_single(machine)
    check_word(word)
    rows = signed_transitions(machine)
    before = {}
    met = {(0, 0): True}
    level = [(0, 0)]
    while level:
        ahead = []
        for node in level:
            if node[0] == len(word):
                return indices_to(before, node)
            for index, behind in ways_in_word(rows, word, node):
                if behind not in met:
                    met[behind] = True
                    before[behind] = (node, index)
                    ahead.append(behind)
        level = ahead
    return None


def ways_in_word(rows, word, node):
    """The list of pairs of an index and what is behind it, from so many signs of the word and a state."""
    many, state = node
    wanted = word[many] if many < len(word) else ()
    found = []
    for index, sign, behind in rows[state]:
        if sign is None:
            found.append((index, (many, behind)))
        elif sign == wanted:
            found.append((index, (many + 1, behind)))
    return found


def indices_to(before, node):
    """The indices that lead to a node, put together from the last one before each node."""
    indices = []
    while node in before:
        node, index = before[node]
        indices.append(index)
    return tuple(indices[::-1])


def is_doing(machine, word, value):
    """Whether the value is a tuple of transition indices by which the machine does the word."""
    check_single(machine)
    check_word(word)
    if not isinstance(value, tuple):
        return False
    state = 0
    signs = []
    for index in value:
        if not is_whole_from(index, 0, len(machine[2]) - 1):
            return False
        before, deed, behind = machine[2][index]
        if before != state:
            return False
        state = behind
        if deed[0] != "step":
            signs.append(sign_of(deed))
    return tuple(signs) == word


# Sets are looked up in pieces of so many bits, so that the tables of the pieces are small; and the greatest piece.
PIECE = 6
GREATEST_PIECE = 63


class Doing:
    """What a machine can do from sets of its states. A set is an integer in which the bit of each state is set.

    What lies behind all signs is kept in one integer, too: for each sign, in their order, it has a set.
    """

    def __init__(self, machine):
        rows = signed_transitions(machine)
        self._size = machine[0]
        self._closures = closures_of_steps(rows)
        self._signs = sorted({sign for row in rows for _, sign, _ in row if sign is not None})
        shifts = {sign: self._size * at for at, sign in enumerate(self._signs)}
        ahead = []
        for row in rows:
            behind = 0
            for _, sign, state in row:
                if sign is not None:
                    behind = behind | (self._closures[state] << shifts[sign])
            ahead.append(behind)
        self._whole = (1 << self._size) - 1
        # In the order of the signs, sends stand before takes.
        many = len([sign for sign in self._signs if sign[0] == "send"])
        self._sends = (1 << self._size * many) - 1
        self._pieces = [joined_pieces(ahead[at:at + PIECE]) for at in range(0, self._size, PIECE)]
        self.first = self._closures[0]

    def set_of(self, states):
        """The set of the states of a tuple, and of all to which steps lead from them."""
        found = 0
        for state in states:
            found = found | self._closures[state]
        return found

    def states_of(self, here):
        """The ascending tuple of the states of a set."""
        return tuple([state for state in range(self._size) if (here >> state) & 1])

    def behind(self, here):
        """The sets behind each sign that some states of a set allow, under the signs, which ascend."""
        return self._by_signs(self._ahead(here))

    def carefully_behind(self, here):
        """The same for the sends alone, or for the takes if there is no send."""
        ahead = self._ahead(here)
        return self._by_signs(ahead & self._sends if ahead & self._sends else ahead)

    def _ahead(self, here):
        """What lies behind all signs that some states of a set allow, as one integer."""
        ahead = 0
        for piece in self._pieces:
            ahead = ahead | piece[here & GREATEST_PIECE]
            here = here >> PIECE
        return ahead

    def _by_signs(self, ahead):
        """The sets in one integer, under their signs."""
        found = {}
        for sign in self._signs:
            if ahead & self._whole:
                found[sign] = ahead & self._whole
            ahead = ahead >> self._size
        return found


def closures_of_steps(rows):
    """For each state the set of those to which steps lead from it, and of itself."""
    steps = [[behind for _, sign, behind in row if sign is None] for row in rows]
    closures = []
    for state in range(len(rows)):
        found = 1 << state
        waiting = [state]
        while waiting:
            for behind in steps[waiting.pop()]:
                if not (found >> behind) & 1:
                    found = found | (1 << behind)
                    waiting.append(behind)
        closures.append(found)
    return closures


def joined_pieces(sets):
    """For each set of places, as an integer, what is in the sets at these places."""
    joined = [0]
    for ahead in sets:
        joined = joined + [found | ahead for found in joined]
    return joined


def careful_signs(signs):
    """The list of the sends among the signs, or of all of them if there is no send."""
    sends = [sign for sign in signs if sign[0] == "send"]
    return sends if sends else signs


def states_after(machine, word):
    """The states in which the machine can be behind the word, ascending."""
    check_single(machine)
    check_word(word)
    doing = Doing(machine)
    known = {}
    here = doing.first
    for sign in word:
        if here not in known:
            known[here] = doing.behind(here)
        here = known[here].get(sign, 0)
    return doing.states_of(here)
