"""The document once more, written down as plainly and as differently from the package as possible.

Nothing here is fast, and nothing is shared with the package: the tests compare both.
"""

import re


def whole(value, low, high):
    return type(value) is int and low <= value <= high


def name(value):
    return type(value) is str and re.fullmatch("[a-z]{1,8}", value) is not None


def row(value, size):
    return type(value) is tuple and len(value) == size


def names_row(value):
    return type(value) is tuple and all(name(part) for part in value)


def naming(value):
    return type(value) is dict and all(name(key) and name(value[key]) for key in value)


def deed(value):
    if type(value) is not tuple:
        return False
    if len(value) == 1:
        return type(value[0]) is str and value[0] == "step"
    if len(value) != 3 or type(value[0]) is not str:
        return False
    return value[0] in {"send", "take"} and name(value[1]) and name(value[2])


def transition(value, size):
    return row(value, 3) and whole(value[0], 0, size - 1) and deed(value[1]) and whole(value[2], 0, size - 1)


def machine(value):
    if not row(value, 3) or not whole(value[0], 1, 30):
        return False
    size, finals, transitions = value
    if type(finals) is not tuple or type(transitions) is not tuple or len(transitions) > 90:
        return False
    if not all(whole(state, 0, size - 1) for state in finals):
        return False
    if not all(transition(part, size) for part in transitions):
        return False
    return list(finals) == sorted(set(finals)) and list(transitions) == sorted(set(transitions))


def neighbours(value):
    return sorted({part[1][1] for part in value[2] if part[1][0] in ("send", "take")})


def network(value):
    if not row(value, 2) or type(value[0]) is not tuple or type(value[1]) is not tuple:
        return False
    machines, links = value
    if not 1 <= len(machines) <= 6:
        return False
    if not all(row(pair, 2) and name(pair[0]) and machine(pair[1]) for pair in machines):
        return False
    found = [pair[0] for pair in machines]
    if found != sorted(set(found)):
        return False
    if not all(names_row(link) and len(link) == 2 for link in links):
        return False
    if not all(one in found and other in found and one < other for one, other in links):
        return False
    if list(links) != sorted(set(links)) or len(links) != len(found) - len(trees(found, links)):
        return False
    return all(tuple(sorted((own, near))) in links for own, table in machines for near in neighbours(table))


def trees(found, links):
    """The sets of names between which ways lead; a graph has no circle if each link joins two of them."""
    left, many = set(found), []
    while left:
        tree = {left.pop()}
        for _ in found:
            tree |= {end for link in links if tree & set(link) for end in link}
        left -= tree
        many.append(tree)
    return many


def channels(net):
    return sorted([(one, other) for one, other in net[1]] + [(other, one) for one, other in net[1]])


def configuration(net, value):
    if not row(value, 2) or not row(value[0], len(net[0])) or not row(value[1], 2 * len(net[1])):
        return False
    fits = all(whole(state, 0, pair[1][0] - 1) for state, pair in zip(value[0], net[0]))
    return fits and all(names_row(queue) for queue in value[1])


def first(net):
    return (tuple(0 for _ in net[0]), tuple(() for _ in channels(net)))


def steps(net, conf):
    """All possible moves with the configurations behind them."""
    found = {}
    for at, (own, table) in enumerate(net[0]):
        for index, (before, done, behind) in enumerate(table[2]):
            if before != conf[0][at]:
                continue
            queues = dict(zip(channels(net), map(list, conf[1])))
            if done[0] == "send":
                queues[own, done[1]].append(done[2])
            if done[0] == "take":
                queue = queues[done[1], own]
                if not queue or queue.pop(0) != done[2]:
                    continue
            states = list(conf[0])
            states[at] = behind
            found[own, index] = (tuple(states), tuple(tuple(queues[key]) for key in channels(net)))
    return found


def fault(net, value, start):
    """The position that the error for a run keeps, or None for a run."""
    if type(value) is not tuple:
        return 0
    conf = start
    for at, move in enumerate(value):
        if not row(move, 2) or type(move[0]) is not str or type(move[1]) is not int:
            return at
        if move not in steps(net, conf):
            return at
        conf = steps(net, conf)[move]
    return None


def configurations(net, run, start):
    found = [start]
    for move in run:
        found.append(steps(net, found[-1])[move])
    return found


def crossed(net, conf):
    queues = dict(zip(channels(net), conf[1]))
    return [(one, other) for one, other in net[1] if queues[one, other] and queues[other, one]]


def runs(net, start, length):
    """All runs with so many moves, with the configurations behind them."""
    level = [((), start)]
    for _ in range(length):
        level = [(run + (move,), behind) for run, conf in level for move, behind in sorted(steps(net, conf).items())]
    return level


def logs(net, run):
    return tuple(tuple(index for own, index in run if own == pair[0]) for pair in net[0])


def messages(net, log, start):
    """The messages of logs, by following each channel on its own."""
    places = {pair[0]: at for at, pair in enumerate(net[0])}
    found = []
    for (sender, taker), queue in zip(channels(net), start[1]):
        rows = [[sender, taker, letter, None, None] for letter in queue]
        for at, index in enumerate(log[places[sender]]):
            done = net[0][places[sender]][1][2][index][1]
            if done[0] == "send" and done[1] == taker:
                rows.append([sender, taker, done[2], at, None])
        many = 0
        for at, index in enumerate(log[places[taker]]):
            done = net[0][places[taker]][1][2][index][1]
            if done[0] == "take" and done[1] == sender:
                rows[many][4] = at
                many += 1
        found.extend(tuple(part) for part in rows)
    return tuple(found)


def crosses(one, other):
    """Whether two messages are a crossing pair, by the words of the document."""
    if (one[0], one[1]) != (other[1], other[0]):
        return False
    early, late = -1, 10 ** 9
    place = {"sent": lambda part: early if part[3] is None else part[3]}
    place["taken"] = lambda part: late if part[4] is None else part[4]
    return place["taken"](one) > place["sent"](other) and place["taken"](other) > place["sent"](one)


def first_view(net, start):
    queues = dict(zip(channels(net), start[1]))
    holds = []
    for one, other in net[1]:
        hold = ()
        for sender, taker in ((one, other), (other, one)):
            if queues[sender, taker]:
                hold = (sender, queues[sender, taker][0], len(queues[sender, taker]))
        holds.append(hold)
    return (start[0], tuple(holds))


def view(net, start, value):
    if not row(value, 2) or not row(value[0], len(net[0])) or not row(value[1], len(net[1])):
        return False
    if not all(whole(state, 0, pair[1][0] - 1) for state, pair in zip(value[0], net[0])):
        return False
    queues = dict(zip(channels(net), start[1]))
    for hold, link in zip(value[1], net[1]):
        if type(hold) is not tuple or len(hold) not in (0, 3):
            return False
        if not hold:
            continue
        sender, letter, left = hold
        if type(sender) is not str or sender not in link or not name(letter) or not whole(left, 0, 20):
            return False
        queue = queues[sender, link[1 - link.index(sender)]]
        if left and (left > len(queue) or queue[-left] != letter):
            return False
    return True


def loose_view(net, value):
    """A view without a start."""
    if not row(value, 2) or not row(value[0], len(net[0])) or not row(value[1], len(net[1])):
        return False
    if not all(whole(state, 0, pair[1][0] - 1) for state, pair in zip(value[0], net[0])):
        return False
    for hold, link in zip(value[1], net[1]):
        if type(hold) is not tuple or len(hold) not in (0, 3):
            return False
        if hold and not (type(hold[0]) is str and hold[0] in link and name(hold[1]) and whole(hold[2], 0, 20)):
            return False
    return True


def acts(net, start, seen):
    """All possible acts with the views behind them."""
    found = {}
    queues = dict(zip(channels(net), start[1]))
    holds = dict(zip(net[1], seen[1]))
    ready = [
        (at, own, index, done, behind)
        for at, (own, table) in enumerate(net[0])
        for index, (before, done, behind) in enumerate(table[2])
        if before == seen[0][at]
    ]
    for at, own, index, done, behind in ready:
        states = list(seen[0])
        states[at] = behind
        if done[0] == "step":
            found["step", own, index] = (tuple(states), seen[1])
            continue
        link = tuple(sorted((own, done[1])))
        hold = holds[link]
        if done[0] == "take" and hold and hold[0] == done[1] and hold[1] == done[2] and hold[2] > 0:
            rest = queues[done[1], own][::-1][:hold[2] - 1][::-1]
            after = dict(holds)
            after[link] = (done[1], rest[0], len(rest)) if rest else ()
            found["take", own, index] = (tuple(states), tuple(after[key] for key in net[1]))
        if done[0] == "send" and (not hold or hold[0] == own):
            after = dict(holds)
            after[link] = (own, hold[1] if hold else done[2], 0)
            found["post", own, index] = (tuple(states), tuple(after[key] for key in net[1]))
        if done[0] == "send" and not hold:
            for place, other, number, taken, next_state in ready:
                if other == done[1] and taken == ("take", own, done[2]):
                    both = list(states)
                    both[place] = next_state
                    found["hand", own, index, other, number] = (tuple(both), seen[1])
    return found


def exposed(net, seen):
    for hold, link in zip(seen[1], net[1]):
        for at, (own, table) in enumerate(net[0]):
            if hold and own in link and own != hold[0]:
                for before, done, _ in table[2]:
                    if before == seen[0][at] and done[0] == "send" and done[1] == hold[0]:
                        return True
    return False


def path_fault(net, value, start):
    """The position that the error for a path keeps, or None for a path."""
    if type(value) is not tuple:
        return 0
    seen = first_view(net, start)
    for at, act in enumerate(value):
        if type(act) is not tuple or not all(type(part) in (str, int) for part in act):
            return at
        found = acts(net, start, seen)
        if act not in found:
            return at
        seen = found[act]
    return None


def path_view(net, path, start):
    seen = first_view(net, start)
    for act in path:
        seen = acts(net, start, seen)[act]
    return seen


def path_run(path):
    moves = []
    for act in path:
        moves += [act[1:3], act[3:5]] if act[0] == "hand" else [act[1:3]]
    return tuple(moves)
