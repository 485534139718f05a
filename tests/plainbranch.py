"""Stages 12 and 13 once more: branches by plain searches over sets of views, and plain judges of runs.

Everything here rests on tests.spec and on nothing of the package.
"""

from tests import spec


def names(net, one, other):
    """The names of the branch, found by going on over links until nothing is added."""
    inside = {other}
    for _ in net[0]:
        for link in net[1]:
            if set(link) != {one, other} and inside & set(link):
                inside |= set(link)
    return tuple(sorted(inside))


def inner(net, one, other):
    """The machines of the branch as a network, without the root's deeds over the outer link, and these transitions."""
    inside = names(net, one, other)
    machines, outer = [], []
    for name, (size, finals, transitions) in net[0]:
        if name in inside:
            kept = tuple(part for part in transitions if name != other or part[1][1:2] != (one,))
            outer += [part for part in transitions if part not in kept]
            machines.append((name, (size, finals, kept)))
    return (tuple(machines), tuple(link for link in net[1] if set(link) <= set(inside))), outer


class Plain:
    """A branch whose words are asked for one by one."""

    def __init__(self, net, one, other):
        self.net, self.outer = inner(net, one, other)
        self.at = [name for name, _ in self.net[0]].index(other)
        self.first = self.closed({spec.first_view(self.net, spec.first(self.net))})
        self.known = {}

    def closed(self, views):
        found, waiting = set(views), list(views)
        while waiting:
            for behind in spec.acts(self.net, spec.first(self.net), waiting.pop()).values():
                if behind not in found:
                    found.add(behind)
                    waiting.append(behind)
        return frozenset(found)

    def behind(self, views, sign):
        """The views behind one more sign."""
        if (views, sign) not in self.known:
            found = set()
            for states, holds in views:
                for before, deed, after in self.outer:
                    if (deed[0], deed[2]) == sign and states[self.at] == before:
                        found.add((states[:self.at] + (after,) + states[self.at + 1:], holds))
            self.known[views, sign] = self.closed(found)
        return self.known[views, sign]

    def after(self, word):
        views = self.first
        for sign in word:
            views = self.behind(views, sign)
        return views

    def has(self, word):
        return bool(self.after(word))

    def risky(self, word):
        return any(spec.exposed(self.net, view) for view in self.after(word))

    def signs(self):
        return sorted({(deed[0], deed[2]) for _, deed, _ in self.outer})

    def words(self, longest):
        found, level = [()], [()]
        for _ in range(longest):
            level = [word + (sign,) for word in level for sign in self.signs() if self.has(word + (sign,))]
            found += level
        return found

    def careful(self, word):
        for at, sign in enumerate(word):
            if sign[0] == "take" and any(
                    self.behind(self.after(word[:at]), part) for part in self.signs() if part[0] == "send"):
                return False
        return True

    def table(self, only_careful=False):
        """All sets of views, each with those behind it, and whether it is risky."""
        table, waiting = {}, [self.first]
        while waiting:
            views = waiting.pop()
            if views not in table:
                row = {sign: self.behind(views, sign) for sign in self.signs() if self.behind(views, sign)}
                if only_careful and any(sign[0] == "send" for sign in row):
                    row = {sign: row[sign] for sign in row if sign[0] == "send"}
                table[views] = row
                waiting += row.values()
        return table

    def least(self, name, only_careful=False):
        """The least machine, by telling pairs of sets apart until nothing is added."""
        table = self.table(only_careful)
        risky = {views: any(spec.exposed(self.net, view) for view in views) for views in table}
        apart = {(one, two) for one in table for two in table
                 if risky[one] != risky[two] or set(table[one]) != set(table[two])}
        more = True
        while more:
            more = {(one, two) for one in table for two in table if (one, two) not in apart and any(
                (table[one][sign], table[two][sign]) in apart for sign in table[one])}
            apart |= more
        numbered = [self.first]
        transitions = []
        for views in numbered:
            for sign in sorted(table[views]):
                behind = table[views][sign]
                found = [at for at, other in enumerate(numbered) if (behind, other) not in apart]
                if not found:
                    found = [len(numbered)]
                    numbered.append(behind)
                transitions.append((numbered.index(views), (sign[0], name, sign[1]), found[0]))
        finals = tuple(at for at, views in enumerate(numbered) if risky[views])
        return (len(numbered), finals, tuple(sorted(transitions)))


def branch_run(net, one, other, word, value):
    """Whether the value is a branch run, by doing its moves on queues."""
    if type(value) is not tuple:
        return False
    inside = names(net, one, other)
    machines = {name: machine for name, machine in net[0] if name in inside}
    states = {name: 0 for name in inside}
    queues = {channel: [] for channel in spec.channels(net) if set(channel) <= set(inside)}
    signs = []
    for move in value:
        if not spec.row(move, 2) or type(move[0]) is not str or type(move[1]) is not int or move[0] not in inside:
            return False
        name, index = move
        if not 0 <= index < len(machines[name][2]) or machines[name][2][index][0] != states[name]:
            return False
        _, deed, states[name] = machines[name][2][index]
        if deed[0] == "step":
            continue
        if deed[1] == one:
            signs.append((deed[0], deed[2]))
        elif deed[0] == "send":
            queues[name, deed[1]].append(deed[2])
            if queues[deed[1], name]:
                return False
        elif not queues[deed[1], name] or queues[deed[1], name].pop(0) != deed[2]:
            return False
    return tuple(signs) == word


def shortest(net, one, other, longest, most):
    """The least numbers of moves of branch runs, for all words with such runs of at most so many moves.

    None if there are too many rows of words, states and queues to look at all.
    """
    inside = names(net, one, other)
    channels = [channel for channel in spec.channels(net) if set(channel) <= set(inside)]
    machines = [(name, machine) for name, machine in net[0] if name in inside]
    first = ((), tuple(0 for _ in machines), tuple(() for _ in channels))
    met, level = {first: 0}, [first]
    for number in range(1, longest + 1):
        ahead = []
        for word, states, queues in level:
            for at, (name, machine) in enumerate(machines):
                for before, deed, behind in machine[2]:
                    if before != states[at]:
                        continue
                    done, lying = word, dict(zip(channels, queues))
                    if deed[0] != "step" and deed[1] == one:
                        done = word + ((deed[0], deed[2]),)
                    elif deed[0] == "send":
                        lying[name, deed[1]] += (deed[2],)
                        if lying[deed[1], name]:
                            continue
                    elif deed[0] == "take":
                        if lying[deed[1], name][:1] != (deed[2],):
                            continue
                        lying[deed[1], name] = lying[deed[1], name][1:]
                    node = (done, states[:at] + (behind,) + states[at + 1:], tuple(lying[key] for key in channels))
                    if node not in met:
                        met[node] = number
                        ahead.append(node)
        level = ahead
        if len(met) > most:
            return None
    numbers = {}
    for (word, _, _), number in met.items():
        numbers[word] = min(number, numbers.get(word, number))
    return numbers


def rest(net, one, other, conf):
    inside = names(net, one, other)
    states = tuple(state for (name, _), state in zip(net[0], conf[0]) if name not in inside)
    return (states, tuple(queue for channel, queue in zip(spec.channels(net), conf[1]) if not set(channel) <= set(inside)))


def without(net, one, other):
    """The machines and the links of the rest."""
    inside = names(net, one, other)
    return ([pair for pair in net[0] if pair[0] not in inside], [link for link in net[1] if not set(link) & set(inside)])


def carried(net, one, other, run, target, value):
    """Whether the value is a run that is carried over, by the words of the document."""
    if spec.fault(target, value, spec.first(target)) is not None:
        return False
    passed = spec.configurations(target, value, spec.first(target))
    if any(spec.crossed(target, conf) for conf in passed):
        return False
    return told(net, one, other, run) == told(target, one, other, value)


def told(net, one, other, run):
    """The moves of the rest, each with the signs of the root that stand before it, and the signs behind all of them."""
    inside = names(net, one, other)
    moves, signs = [], []
    for name, index in run:
        deed = dict(net[0])[name][2][index][1]
        if name not in inside:
            moves.append((tuple(signs), name, index))
            signs = []
        elif name == other and deed[1:2] == (one,):
            signs.append((deed[0], deed[2]))
    return (moves, signs)


def uncrossed(net, most):
    """All configurations that runs lead to which cross no link, or None if there are more than so many."""
    found, waiting = {spec.first(net)}, [spec.first(net)]
    while waiting and len(found) <= most:
        for behind in spec.steps(net, waiting.pop()).values():
            if behind not in found and not spec.crossed(net, behind):
                found.add(behind)
                waiting.append(behind)
    return found if len(found) <= most else None
