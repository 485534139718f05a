"""Views of a branch, and sets of them.

The views are numbered. A set of views is an integer in which the bit with the number of a view stands for this view, so
that sets of some thousand views are put together quickly.
"""

from halflink.errors import InvalidOperation, TooMany
from halflink.networks.configurations import first_in
from halflink.networks.networks import check_name, check_network, ordered_link, ways_from
from halflink.talks.tables import MAX_SETS
from halflink.talks.words import sign_of
from halflink.views.graphs import explored, finished_order, nearest_path
from halflink.views.oneway import MAX_VIEWS
from halflink.views.ways import ViewWays


def check_linked(network, one, other):
    """Raise the errors that are due for what are no two linked machines of a network."""
    check_network(network)
    check_name(network, one)
    check_name(network, other)
    if ordered_link(one, other) not in network[1]:
        raise InvalidOperation("the machines are not linked")


def branch_names(network, one, other):
    """The names of the machines of the branch, ascending."""
    outer = ordered_link(one, other)
    cut = (network[0], [link for link in network[1] if link != outer])
    return tuple(sorted(list(ways_from(cut, other))))


def inner_network(network, one, other):
    """The machines and the inner links of the branch, with steps in the place of the root's deeds over the outer link.

    An outer act changes just what a step changes. The transitions keep their places, and so their indices, although
    they do not always ascend then.
    """
    names = branch_names(network, one, other)
    machines = [(name, with_steps_over(machine, one)) for name, machine in network[0] if name in names]
    return (tuple(machines), tuple([link for link in network[1] if link[0] in names and link[1] in names]))


def with_steps_over(machine, name):
    """The machine with steps in the place of its deeds with this neighbour."""
    size, finals, transitions = machine
    changed = [
        (before, ("step",) if deed[1:2] == (name,) else deed, behind)
        for before, deed, behind in transitions
    ]
    return (size, finals, tuple(changed))


def outer_signs(network, one, other):
    """The signs of the root's moves over the outer link, under the moves."""
    transitions = dict(network[0])[other][2]
    return {
        (other, index): sign_of(deed)
        for index, (_, deed, _) in enumerate(transitions)
        if deed[1:2] == (one,)
    }


class BranchViews:
    """The views of a branch to which paths lead, and the acts between them; the first view has the number 0."""

    def __init__(self, network, one, other):
        inside = inner_network(network, one, other)
        source = ViewWays(inside, first_in(inside))
        machines = source.machines
        rows, ways = explored(source, machines, 1, MAX_VIEWS)
        signs = outer_signs(network, one, other)
        self.exposed = [source.exposing_send(row, machines) is not None for row in rows]
        # Pairs of an act and the view behind it, and triples with a sign in front of these.
        self.inner = [[way for way in row if way[0][1:3] not in signs] for row in ways]
        self.outer = [[(signs[act[1:3]], act, behind) for act, behind in row if act[1:3] in signs] for row in ways]


def closures_of(inner):
    """For each view, the set of the views to which inner acts lead from it, and of the view itself."""
    many = len(inner)
    # A further node, from which ways lead to all views, lets one search meet all of them.
    order = finished_order([*inner, [(None, number) for number in range(many)]], many)[:-1]
    closures = [1 << number for number in range(many)]
    dirty = True
    while dirty:
        dirty = False
        for number in order:
            found = closures[number]
            for _, behind in inner[number]:
                found = found | closures[behind]
            if found != closures[number]:
                closures[number] = found
                dirty = True
    return closures


def table_of_branch(views):
    """The table of the words of a branch, with one place for each set of views, and whether each place is risky."""
    closures = closures_of(views.inner)
    outer = {}
    for number, row in enumerate(views.outer):
        for sign, _, behind in row:
            outer.setdefault(sign, []).append((1 << number, closures[behind]))
    exposed = sum([1 << number for number, told in enumerate(views.exposed) if told])
    numbers = {closures[0]: 0}
    sets = [closures[0]]
    table = []
    while len(table) < len(sets):
        here = sets[len(table)]
        row = {}
        for sign in sorted(list(outer)):
            behind = set_behind(here, outer[sign])
            if behind == 0:
                continue
            if behind not in numbers:
                numbers[behind] = len(sets)
                sets.append(behind)
            row[sign] = numbers[behind]
        table.append(row)
        if len(sets) > MAX_SETS:
            raise TooMany(MAX_SETS)
    return (table, [(here & exposed) != 0 for here in sets])


def set_behind(here, pairs):
    """The set behind a sign, of which each pair has the bit of a view and the set to which an act leads from it."""
    behind = 0
    for bit, ahead in pairs:
        if here & bit:
            behind = behind | ahead
    return behind


def nearest_with(views, word):
    """A path of least weight with this word, or None."""
    goal = len(views.inner) * len(word)
    return nearest_path(
        lambda node: ways_with(views, word, node),
        0,
        lambda place: place >= goal,
    )


def ways_with(views, word, node):
    """The list of pairs of an act and the node behind it, for the inner acts and those outer ones that go on in a word.

    A node is the number of the signs that are done, times the number of views, and the number of a view.
    """
    many = len(views.inner)
    done, number = divmod(node, many)
    found = [(act, done * many + behind) for act, behind in views.inner[number]]
    if done < len(word):
        for sign, act, behind in views.outer[number]:
            if sign == word[done]:
                found.append((act, (done + 1) * many + behind))
    return found
