"""Machines: states, and transitions that send a letter, take a letter, or make a step."""

from halflink.errors import InvalidMachine, InvalidNumber, InvalidOperation, UnknownName
from halflink.values import is_name, is_naming, is_whole, is_whole_from

MAX_STATES = 30
MAX_TRANSITIONS = 90
EXCHANGES = ("send", "take")


def is_machine(value):
    """Whether the value is a machine."""
    return is_machine_near(value, None)


def is_machine_near(value, near):
    """Whether the value is a machine with neighbours among these names; None stands for all names."""
    if not isinstance(value, tuple) or len(value) != 3:
        return False
    size, finals, transitions = value
    return (
        is_whole(size)
        and 1 <= size <= MAX_STATES
        and are_states(finals, size)
        and are_transitions(transitions, size, near)
        and len(transitions) <= MAX_TRANSITIONS
    )


def are_states(value, size):
    """Whether the value is an ascending tuple of states of a machine of this size."""
    if not isinstance(value, tuple):
        return False
    last = -1
    for state in value:
        if not is_whole(state) or not last < state < size:
            return False
        last = state
    return True


def are_transitions(value, size, near):
    """Whether the value is an ascending tuple of transitions of a machine of this size with such neighbours."""
    if not isinstance(value, tuple):
        return False
    last = ()
    for transition in value:
        if not isinstance(transition, tuple) or len(transition) != 3:
            return False
        before, deed, behind = transition
        # Every function checks whole networks: the short test of the common kind keeps this quick.
        if not (type(before) is int or is_whole(before)) or not (type(behind) is int or is_whole(behind)):
            return False
        if not (0 <= before < size and 0 <= behind < size and isinstance(deed, tuple)):
            return False
        if len(deed) == 3:
            word, other, letter = deed
            if word not in EXCHANGES or not is_name(letter):
                return False
            if not (is_name(other) if near is None else other in near):
                return False
        elif len(deed) != 1 or deed[0] != "step":
            return False
        if not last < transition:
            return False
        last = transition
    return True


def is_exchange(word):
    """Whether the word is that of a deed with a letter."""
    return word in EXCHANGES


def check_machine(machine):
    """Raise the error that is due for what is no machine."""
    if not is_machine(machine):
        raise InvalidMachine("not a machine")


def check_state(machine, state):
    """Raise the error that is due for what is no state of the machine."""
    if not is_whole_from(state, 0, machine[0] - 1):
        raise InvalidNumber(state)


def make_machine(size, *transitions, finals=()):
    """The machine with these transitions and final states."""
    return machine_from(size, transitions, finals)


def machine_from(size, transitions, finals):
    """The machine with a tuple of transitions and a tuple of final states, in any order and repeated."""
    if not is_whole_from(size, 1, MAX_STATES):
        raise InvalidNumber(size)
    # Only what has the right form can be sorted, so each part is looked at alone.
    if not isinstance(transitions, tuple) or not all([are_transitions((part,), size, None) for part in transitions]):
        raise InvalidMachine("not a tuple of transitions between the states")
    if not isinstance(finals, tuple) or not all([are_states((part,), size) for part in finals]):
        raise InvalidMachine("not a tuple of states as the final ones")
    machine = (size, tuple(sorted(set(finals))), tuple(sorted(set(transitions))))
    if len(machine[2]) > MAX_TRANSITIONS:
        raise InvalidMachine("too many transitions")
    return machine


def neighbours_of(machine):
    """The names in the deeds of the machine, ascending."""
    check_machine(machine)
    return neighbours_in(machine)


def neighbours_in(machine):
    """The neighbours of what is known to be a machine."""
    deeds = [transition[1] for transition in machine[2]]
    return tuple(sorted({deed[1] for deed in deeds if is_exchange(deed[0])}))


def is_single(value):
    """Whether the value is a machine with at most one neighbour."""
    return is_machine(value) and len(neighbours_in(value)) <= 1


def transitions_at(machine, state):
    """The indices of the transitions with this state, ascending."""
    check_machine(machine)
    check_state(machine, state)
    return tuple([index for index, transition in enumerate(machine[2]) if transition[0] == state])


def letters_at(machine, state, word, other):
    """The letters that the machine sends to, or takes from, the other one in this state, ascending."""
    check_machine(machine)
    check_state(machine, state)
    if not is_exchange(word):
        raise InvalidOperation("neither send nor take")
    if other not in neighbours_in(machine):
        raise UnknownName(other)
    deeds = [deed for before, deed, _ in machine[2] if before == state]
    return tuple(sorted({deed[2] for deed in deeds if deed[:2] == (word, other)}))


def reached_states(machine):
    """The states to which transitions lead from state 0, ascending."""
    check_machine(machine)
    return states_reached_in(machine)


def states_reached_in(machine):
    """The reached states of what is known to be a machine."""
    reached = {0: True}
    waiting = [0]
    while waiting:
        state = waiting.pop()
        for before, _, behind in machine[2]:
            if before == state and behind not in reached:
                reached[behind] = True
                waiting.append(behind)
    return tuple(sorted(list(reached)))


def trimmed(machine):
    """The machine without the states that are not reached."""
    check_machine(machine)
    _, finals, transitions = machine
    states = states_reached_in(machine)
    # The new numbers keep the order of the states, so the tuples stay ascending.
    numbers = {state: number for number, state in enumerate(states)}
    kept_finals = [numbers[state] for state in finals if state in numbers]
    kept = [(numbers[before], deed, numbers[behind]) for before, deed, behind in transitions if before in numbers]
    return (len(states), tuple(kept_finals), tuple(kept))


def renamed_machine(machine, **names):
    """The machine with other names for the neighbours that are keywords."""
    return machine_renamed_by(machine, names)


def machine_renamed_by(machine, names):
    """The machine with other names for the neighbours that are keys of the dict."""
    check_machine(machine)
    if not is_naming(names):
        raise InvalidOperation("not a dict from names to names")
    neighbours = neighbours_in(machine)
    if len({names.get(name, name) for name in neighbours}) < len(neighbours):
        raise InvalidOperation("two neighbours would become one")
    return with_neighbours_named(machine, names)


def with_neighbours_named(machine, names):
    """The machine with other names for its neighbours, none of which become equal."""
    size, finals, transitions = machine
    renamed = [(before, renamed_deed(deed, names), behind) for before, deed, behind in transitions]
    return (size, finals, tuple(sorted(renamed)))


def renamed_deed(deed, names):
    """The deed with another name for its neighbour."""
    if not is_exchange(deed[0]):
        return deed
    word, other, letter = deed
    return (word, names.get(other, other), letter)
