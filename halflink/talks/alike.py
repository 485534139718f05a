"""Alike machines: single machines that no surrounding can tell apart."""

from halflink.errors import InvalidOperation, TooMany
from halflink.machines.machines import MAX_STATES, are_states, is_single, neighbours_in, with_neighbours_named
from halflink.networks.configurations import first_in
from halflink.talks.tables import MAX_SETS, signs_of_both, table_of_rows
from halflink.talks.talks import Talk
from halflink.talks.words import Doing, check_single, check_word, mirrored_sign
from halflink.values import is_ascending, is_name, is_row
from halflink.views.oneway import is_crossing_ahead, views_ahead


def paired_network(left, right):
    """The network of the machines "left" and "right", each of which is the neighbour of the other one."""
    check_single(left)
    check_single(right)
    return pair_of(left, right)


def pair_of(left, right):
    """The pair of what are known to be single machines."""
    machines = (("left", with_neighbour(left, "right")), ("right", with_neighbour(right, "left")))
    return (machines, (("left", "right"),))


def with_neighbour(machine, name):
    """The single machine with this name in the place of that of its neighbour."""
    return with_neighbours_named(machine, {neighbour: name for neighbour in neighbours_in(machine)})


def careful_talks(first, second):
    """The talks of the careful words of both machines; raise the errors that are due for them."""
    check_single(first)
    check_single(second)
    return (Talk.careful_of(first), Talk.careful_of(second))


def are_alike(first, second):
    """Whether both machines have the same careful words."""
    one, other = careful_talks(first, second)
    return one == other


def careful_difference(first, second):
    """The smallest careful word of just one machine, with 0 for the first and 1 for the second one; or None."""
    one, other = careful_talks(first, second)
    return smallest_difference(one.rows, other.rows)


def smallest_difference(one, other):
    """The smallest word that can be read along just one of two tuples of rows, and which it is; or None."""
    table, far_table = table_of_rows(one), table_of_rows(other)
    met = {(0, 0): True}
    level = [((), 0, 0)]
    while level:
        ahead = []
        # The words of a level ascend, so the first difference is the smallest one.
        for word, here, there in level:
            near, far = table[here], far_table[there]
            for sign in signs_of_both(near, far):
                if sign not in near or sign not in far:
                    return (word + (sign,), 0 if sign in near else 1)
                behind = (near[sign], far[sign])
                if behind not in met:
                    met[behind] = True
                    ahead.append((word + (sign,), near[sign], far[sign]))
        level = ahead
    return None


def likeness_of(first, second):
    """Any likeness of the machines, or None."""
    if not are_alike(first, second):
        return None
    one, other = Doing(first), Doing(second)
    begun = (one.first, other.first)
    met = {begun: True}
    waiting = [begun]
    while waiting:
        here, there = waiting.pop()
        near, far = one.carefully_behind(here), other.carefully_behind(there)
        for sign in near:
            behind = (near[sign], far[sign])
            if behind not in met:
                met[behind] = True
                waiting.append(behind)
        if len(met) > MAX_SETS:
            raise TooMany(MAX_SETS)
    return tuple(sorted([(one.states_of(here), other.states_of(there)) for here, there in met]))


def is_likeness(first, second, value):
    """Whether the value is a likeness of the machines."""
    check_single(first)
    check_single(second)
    one, other = Doing(first), Doing(second)
    if not isinstance(value, tuple) or not all([is_row(pair, 2) for pair in value]):
        return False
    for here, there in value:
        if not is_closed_set(first, one, here) or not is_closed_set(second, other, there):
            return False
    inside = {(one.set_of(here), other.set_of(there)): True for here, there in value}
    if not is_ascending(value) or (one.first, other.first) not in inside:
        return False
    for here, there in inside:
        near, far = one.carefully_behind(here), other.carefully_behind(there)
        if list(near) != list(far) or not all([(near[sign], far[sign]) in inside for sign in near]):
            return False
    return True


def is_closed_set(machine, doing, value):
    """Whether the value is an ascending tuple of states of the machine out of which no steps lead."""
    return are_states(value, machine[0]) and doing.states_of(doing.set_of(value)) == value


def mirror_machine(word, other):
    """The machine that does the mirror of the word and is in its only final state then."""
    check_word(word)
    if not is_name(other):
        raise InvalidOperation("not a name")
    if len(word) >= MAX_STATES:
        raise TooMany(MAX_STATES)
    transitions = []
    for state, sign in enumerate(word):
        mirrored, letter = mirrored_sign(sign)
        transitions.append((state, (mirrored, other, letter), state + 1))
    return (len(word) + 1, (len(word),), tuple(transitions))


def telling_surrounding(first, second):
    """The telling surrounding with the word of the careful difference, or None if the machines are alike."""
    found = careful_difference(first, second)
    return None if found is None else (mirror_machine(found[0], "left"), "end")


def is_telling(first, second, value):
    """Whether the value is a telling surrounding of the machines."""
    check_single(first)
    check_single(second)
    if not is_row(value, 2) or not is_single(value[0]) or value[1] not in ("crossing", "end"):
        return False
    right, kind = value
    one, other = seen_of_pair(first, right), seen_of_pair(second, right)
    if kind == "crossing":
        return one[0] != other[0]
    return not one[0] and not other[0] and one[1] != other[1]


def seen_of_pair(left, right):
    """Whether a crossing is reachable in the pair, and whether the right machine's last state with empty queues is."""
    network = pair_of(left, right)
    source, parts = views_ahead(network, first_in(network))
    # The rows have the states of both machines and the hold of the link.
    asked = {1: right[0] - 1, 2: ()}
    met = []
    for part in parts:
        own = [place for place in part.places if place in asked]
        met.append(any([all([row[place] == asked[place] for place in own]) for row in part.all_rows]))
    return (is_crossing_ahead(source, parts), all(met))
