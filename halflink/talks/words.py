"""Words: the sends and takes of a single machine, without its steps."""

from halflink.errors import InvalidOperation, InvalidWord
from halflink.machines.machines import EXCHANGES, check_machine, neighbours_in
from halflink.values import is_name, is_row, is_whole_from


def is_sign(value):
    """Whether the value is a sign."""
    return is_row(value, 2) and value[0] in EXCHANGES and is_name(value[1])


def is_word(value):
    """Whether the value is a word."""
    if not isinstance(value, tuple):
        return False
    for part in value:
        if not is_sign(part):
            return False
    return True


def check_word(word):
    """Raise the error that is due for what is no word."""
    if not is_word(word):
        raise InvalidWord("not a word")


def mirrored_sign(sign):
    """The sign that the other end of the link has."""
    word, letter = sign
    return ("take" if word == "send" else "send", letter)


def mirrored_word(word):
    """The mirror of the word."""
    check_word(word)
    return tuple([mirrored_sign(sign) for sign in word])


def check_single(machine):
    """Raise the error that is due for what is no single machine."""
    check_machine(machine)
    if len(neighbours_in(machine)) > 1:
        raise InvalidOperation("not a single machine")


def sign_of(deed):
    """The sign of a deed, or None for a step."""
    return None if deed[0] == "step" else (deed[0], deed[2])


def signed_transitions(machine):
    """For each state, the list of its transitions, as triples of an index, a sign or None, and the next state."""
    rows = [[] for _ in range(machine[0])]
    for index, (before, deed, behind) in enumerate(machine[2]):
        rows[before].append((index, sign_of(deed), behind))
    return rows


def indices_doing(machine, word):
    """Any shortest tuple of transition indices by which the machine does the word, or None."""
    check_single(machine)
    check_word(word)
    rows = signed_transitions(machine)
    before = {}
    met = {(0, 0): True}
    level = [(0, 0)]
    while level:
        ahead = []
        for node in level:
            if node[0] == len(word):
                return indices_to(before, node)
            for index, behind in ways_in_word(rows, word, node):
                if behind not in met:
                    met[behind] = True
                    before[behind] = (node, index)
                    ahead.append(behind)
        level = ahead
    return None


def ways_in_word(rows, word, node):
    """The list of pairs of an index and what is behind it, from so many signs of the word and a state."""
    many, state = node
    wanted = word[many] if many < len(word) else ()
    found = []
    for index, sign, behind in rows[state]:
        if sign is None:
            found.append((index, (many, behind)))
        elif sign == wanted:
            found.append((index, (many + 1, behind)))
    return found


def indices_to(before, node):
    """The indices that lead to a node, put together from the last one before each node."""
    indices = []
    while node in before:
        node, index = before[node]
        indices.append(index)
    return tuple(indices[::-1])


def is_doing(machine, word, value):
    """Whether the value is a tuple of transition indices by which the machine does the word."""
    check_single(machine)
    check_word(word)
    if not isinstance(value, tuple):
        return False
    state = 0
    signs = []
    for index in value:
        if not is_whole_from(index, 0, len(machine[2]) - 1):
            return False
        before, deed, behind = machine[2][index]
        if before != state:
            return False
        state = behind
        if deed[0] != "step":
            signs.append(sign_of(deed))
    return tuple(signs) == word


class Doing:
    """What a machine can do from sets of its states, which are ascending tuples."""

    def __init__(self, machine):
        self._rows = signed_transitions(machine)
        self._steps = [[behind for _, sign, behind in row if sign is None] for row in self._rows]
        self.first = self.with_steps([0])

    def with_steps(self, states):
        """The states to which steps lead from these, and these."""
        met = {state: True for state in states}
        waiting = list(states)
        while waiting:
            here = waiting.pop()
            for behind in self._steps[here]:
                if behind not in met:
                    met[behind] = True
                    waiting.append(behind)
        return tuple(sorted(list(met)))

    def behind(self, states):
        """The sets behind each sign that some of the states allow, under the sign."""
        found = {}
        for state in states:
            for _, sign, behind in self._rows[state]:
                if sign is not None:
                    found.setdefault(sign, []).append(behind)
        return {sign: self.with_steps(found[sign]) for sign in sorted(list(found))}

    def carefully_behind(self, states):
        """The same for the sends alone, or for the takes if there is no send."""
        found = self.behind(states)
        return {sign: found[sign] for sign in careful_signs(list(found))}


def careful_signs(signs):
    """The list of the sends among the signs, or of all of them if there is no send."""
    sends = [sign for sign in signs if sign[0] == "send"]
    return sends if sends else signs


def states_after(machine, word):
    """The states in which the machine can be behind the word, ascending."""
    check_single(machine)
    check_word(word)
    doing = Doing(machine)
    known = {}
    states = doing.first
    for sign in word:
        if states not in known:
            known[states] = doing.behind(states)
        states = known[states].get(sign, ())
    return states
