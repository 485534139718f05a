"""Stages 10 and 11 once more, by going through words one by one; and single machines for the tests."""

import itertools
import random

from halflink.machines.machines import machine_from
from tests import spec


def word(value):
    return type(value) is tuple and all(
        type(part) is tuple and len(part) == 2 and type(part[0]) is str and part[0] in ("send", "take")
        and spec.name(part[1]) for part in value)


def single(value):
    return spec.machine(value) and len(spec.neighbours(value)) <= 1


def sign(transition):
    deed = transition[1]
    return (deed[0], deed[2]) if len(deed) == 3 else None


def after(machine, done):
    """The states behind a word: all that rows of transitions with these signs lead to."""
    states = {0}
    for wanted in (None,) + tuple(part for one in done for part in (one, None)):
        if wanted is None:
            for _ in range(machine[0]):
                states |= {part[2] for part in machine[2] if part[0] in states and sign(part) is None}
        else:
            states = {part[2] for part in machine[2] if part[0] in states and sign(part) == wanted}
    return tuple(sorted(states))


def signs(machine):
    return sorted({sign(part) for part in machine[2]} - {None})


def order(done):
    return (len(done), done)


def words(machine, longest):
    """All words up to this length that the machine does, in their order."""
    level, found = [()], [()]
    for _ in range(longest):
        level = [done + (part,) for done in level for part in signs(machine) if after(machine, done + (part,))]
        found += level
    return sorted(found, key=order)


def careful(found):
    """The careful words among all words of a talk up to a length; those with that length are judged rightly, too."""
    has = set(found)
    letters = {part for done in found for part in done if part[0] == "send"}
    return [done for done in found if not any(
        done[at][0] == "take" and any(done[:at] + (part,) in has for part in letters) for at in range(len(done)))]


def rows(machine, is_careful=False):
    """The rows of the talk of a machine, by telling pairs of sets of states apart until nothing changes."""
    def ahead(states):
        found = {}
        for part in machine[2]:
            if part[0] in states and sign(part) is not None:
                found.setdefault(sign(part), set()).add(part[2])
        if is_careful and any(part[0] == "send" for part in found):
            found = {part: found[part] for part in found if part[0] == "send"}
        return {part: frozenset(closed(machine, found[part])) for part in found}

    begun = frozenset(closed(machine, {0}))
    table, waiting = {}, [begun]
    while waiting:
        states = waiting.pop()
        if states not in table:
            table[states] = ahead(states)
            waiting += table[states].values()
    apart = {pair for pair in itertools.product(table, table) if set(table[pair[0]]) != set(table[pair[1]])}
    while True:
        more = {(one, other) for one, other in itertools.product(table, table) if (one, other) not in apart and any(
            (table[one][part], table[other][part]) in apart for part in table[one])}
        if not more:
            break
        apart |= more
    numbered = [begun]
    # Words in their order, each from the smallest word of a residual.
    for states in numbered:
        for part in sorted(table[states]):
            if all((table[states][part], other) in apart for other in numbered):
                numbered.append(table[states][part])
    found = []
    for states in numbered:
        row = []
        for part in sorted(table[states]):
            behind = [at for at, other in enumerate(numbered) if (table[states][part], other) not in apart]
            row.append((part, behind[0]))
        found.append(tuple(row))
    return tuple(found)


def closed(machine, states):
    states = set(states)
    for _ in range(machine[0]):
        states |= {part[2] for part in machine[2] if part[0] in states and sign(part) is None}
    return states


def random_single(seed, size=4, letters=("x", "y")):
    """A single machine that only depends on the number."""
    rng = random.Random(seed)
    other = rng.choice(("p", "other", "left"))
    many = rng.randint(1, size)
    deeds = [("step",)] + [(way, other, letter) for way in ("send", "take") for letter in letters]
    found = [(rng.randrange(many), rng.choice(deeds), rng.randrange(many)) for _ in range(rng.randint(0, 2 * many + 1))]
    return machine_from(many, tuple(found), tuple(rng.sample(range(many), rng.randint(0, many))))


def changed(seed, machine):
    """The machine with a few changes, so that it is often alike."""
    rng = random.Random(seed)
    size, finals, transitions = machine
    kept = list(transitions)
    kind = rng.randrange(5)
    if kind == 0 and kept:
        kept.pop(rng.randrange(len(kept)))
    if kind == 1 and size < 30:
        size += 1
        kept.append((rng.randrange(size), ("step",), size - 1))
        kept.append((size - 1, ("step",), rng.randrange(size)))
    if kind == 2:
        # A take where there is a send.
        sends = [part for part in kept if part[1][0] == "send"]
        if sends:
            part = rng.choice(sends)
            kept.append((part[0], ("take", part[1][1], "z"), rng.randrange(size)))
    if kind == 3 and size < 15:
        # Each state twice.
        kept = [(2 * one + rng.randrange(2) * 0, deed, 2 * other + rng.randrange(2)) for one, deed, other in kept]
        kept += [(one + 1, deed, other) for one, deed, other in kept]
        size *= 2
    return machine_from(size, tuple(kept), finals)
