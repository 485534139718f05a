"""Replaced branches: networks in which another machine, or another branch, stands behind a link."""

from halflink.branches.branches import Branch
from halflink.branches.sets import BranchViews, branch_names, check_linked, nearest_with, outer_signs
from halflink.errors import Crossed, InvalidOperation
from halflink.networks.configurations import check_configuration, first_in
from halflink.networks.networks import assembled, channels_in, check_network, ordered_link
from halflink.runs.runs import check_moves, crossing_on, is_run_from
from halflink.talks.alike import with_neighbour
from halflink.talks.talks import Talk
from halflink.talks.words import check_single
from halflink.views.views import run_in_acts


def with_branch(network, one, other, machine):
    """The network in which a single machine stands in the place of the branch, under the name of its root."""
    check_linked(network, one, other)
    check_single(machine)
    rest, links = rest_in(network, one, other)
    machines = dict(rest)
    machines[other] = with_neighbour(machine, one)
    return assembled(machines, [*links, (one, other)])


def rest_in(network, one, other):
    """The machines that do not belong to the branch, with their names, and the links between them."""
    names = branch_names(network, one, other)
    machines = [pair for pair in network[0] if pair[0] not in names]
    return (machines, [link for link in network[1] if link[0] not in names and link[1] not in names])


def rest_of(network, one, other, configuration):
    """The rest configuration of a configuration."""
    check_linked(network, one, other)
    check_configuration(network, configuration)
    names = branch_names(network, one, other)
    states = [state for (name, _), state in zip(network[0], configuration[0]) if name not in names]
    queues = [
        queue
        for (sender, taker), queue in zip(channels_in(network), configuration[1])
        if sender not in names or taker not in names
    ]
    return (tuple(states), tuple(queues))


def fits_branch(network, one, other, machine):
    """Whether a single machine has the careful words of the branch, none of which is risky."""
    check_linked(network, one, other)
    check_single(machine)
    careful = Branch.over(network, one, other).careful()
    return careful == Talk.careful_of(machine) and careful.first_risk is None


def check_carried(network, one, other, run, target):
    """Raise the errors that are due for the arguments of a question about carried runs."""
    check_linked(network, one, other)
    start = first_in(network)
    check_moves(network, run, start)
    crossing = crossing_on(network, run, start)
    if crossing is not None:
        raise Crossed(run[:crossing])
    check_network(target)
    if ordered_link(one, other) not in target[1]:
        raise InvalidOperation("the machines are not linked in the target")
    if rest_in(network, one, other) != rest_in(target, one, other):
        raise InvalidOperation("the rest of the target is not the same")


def seen_from_rest(network, one, other, run):
    """The list of the moves of the rest, and of the signs of the root's deeds over the outer link, in their order."""
    names = branch_names(network, one, other)
    signs = outer_signs(network, one, other)
    return [signs.get(move, move) for move in run if move[0] not in names or move in signs]


def carried_run(network, one, other, run, target):
    """Any run of the target that is carried over from the run, or None."""
    check_carried(network, one, other, run, target)
    views = BranchViews(target, one, other)
    signs = outer_signs(network, one, other)
    path = nearest_with(views, tuple([signs[move] for move in run if move in signs]))
    if path is None:
        return None
    moves = run_in_acts(path)
    target_signs = outer_signs(target, one, other)
    names = branch_names(network, one, other)
    carried = []
    done = 0
    for move in run:
        if move in signs:
            # The root's deed stands where it stood, and what its branch must do for it stands right before.
            behind = done
            while moves[behind] not in target_signs:
                behind += 1
            carried.extend(list(moves[done:behind + 1]))
            done = behind + 1
        elif move[0] not in names:
            carried.append(move)
    return tuple(carried)


def is_carried(network, one, other, run, target, value):
    """Whether the value is a run of the target that is carried over from the run."""
    check_carried(network, one, other, run, target)
    start = first_in(target)
    if not is_run_from(target, value, start) or crossing_on(target, value, start) is not None:
        return False
    return seen_from_rest(target, one, other, value) == seen_from_rest(network, one, other, run)
