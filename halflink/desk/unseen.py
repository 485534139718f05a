"""Unseen swaps: other machines that all the others and the queues cannot tell from the old ones."""

from halflink.machines.machines import neighbours_in
from halflink.talks.talks import Talk


def begun_at(machine, state):
    """The machine in which this state and state 0 have changed places, without final states."""
    places = {0: state, state: 0}
    transitions = [
        (places.get(before, before), deed, places.get(behind, behind))
        for before, deed, behind in machine[2]
    ]
    return (machine[0], (), tuple(sorted(transitions)))


def are_unseen(old, old_state, new, new_state):
    """Whether one machine in its state can be put in the place of another one in its state without being seen."""
    near, far = neighbours_in(old), neighbours_in(new)
    if len(near) > 1 or len(far) > 1:
        return False
    one = Talk.careful_of(begun_at(old, old_state))
    other = Talk.careful_of(begun_at(new, new_state))
    return one == other and (near == far or not bool(one))
