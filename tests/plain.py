"""Stages 5 to 9 once more: plain searches over configurations and views, and plain judges of papers.

Everything here rests on tests.spec and on nothing of the package.
"""

from tests import spec


def start_of(net, start):
    return spec.first(net) if start is None else start


def reached(net, start, depth, most=3000):
    """The configurations that runs with at most so many moves lead to, with the least number of moves.

    None if there are too many of them to look at all.
    """
    found = {start: 0}
    level = [start]
    for number in range(1, depth + 1):
        behind = []
        for conf in level:
            for after in spec.steps(net, conf).values():
                if after not in found:
                    found[after] = number
                    behind.append(after)
        level = behind
        if len(found) > most:
            return None
    return found


def weight(act):
    return {"hand": 2}.get(act[0], 1)


def views(net, start):
    """The views that paths lead to, with the least weights, found by going round until nothing changes."""
    found = {spec.first_view(net, start): 0}
    waiting = list(found)
    while waiting:
        again = []
        for view in waiting:
            for act, behind in spec.acts(net, start, view).items():
                number = found[view] + weight(act)
                if found.get(behind, number + 1) > number:
                    found[behind] = number
                    again.append(behind)
        waiting = again
    return found


def ascending(value, fits):
    return type(value) is tuple and all(fits(part) for part in value) and list(value) == sorted(set(value))


def end_of(net, run, start):
    """The configuration behind a run, or None for what is no run."""
    if spec.fault(net, run, start) is not None:
        return None
    return spec.configurations(net, run, start)[-1]


def pair(value):
    return type(value) is tuple and len(value) == 2


def closed_views(net, value, start):
    if not ascending(value, lambda part: spec.view(net, start, part)) or spec.first_view(net, start) not in value:
        return False
    inside = set(value)
    return all(set(spec.acts(net, start, view).values()) <= inside for view in value)


def one_way_paper(net, value, start):
    if not pair(value):
        return False
    if value[0] == "crossing":
        conf = end_of(net, value[1], start)
        return conf is not None and spec.crossed(net, conf) != []
    if value[0] != "closed" or spec.crossed(net, start):
        return False
    return closed_views(net, value[1], start) and not any(spec.exposed(net, view) for view in value[1])


def nearest_paper(net, value, start):
    if not pair(value) or type(value[1]) is not dict:
        return False
    run, numbers = value
    if spec.crossed(net, start):
        return repr(value) == "((), {})"
    if not one_way_paper(net, ("crossing", run), start):
        return False
    for view, number in numbers.items():
        if not spec.view(net, start, view) or type(number) is not int or number < 0:
            return False
    if spec.first_view(net, start) not in numbers or numbers[spec.first_view(net, start)] != 0:
        return False
    for view, number in numbers.items():
        if spec.exposed(net, view) and number < len(run) - 1:
            return False
        for act, behind in spec.acts(net, start, view).items():
            if behind in numbers and numbers[behind] > number + weight(act):
                return False
            if behind not in numbers and number + weight(act) < len(run):
                return False
    return True


def counted(net, start, value):
    if not pair(value) or not spec.view(net, start, value[0]) or type(value[1]) is not tuple:
        return False
    return len(value[1]) == 2 * len(net[1]) and all(type(part) is int and part >= 0 for part in value[1])


def left_on(net, view, channel):
    """The `left` of the hold of a link by the sender of a channel, or 0."""
    hold = dict(zip(net[1], view[1]))[tuple(sorted(channel))]
    return hold[2] if hold and hold[0] == channel[0] else 0


def counted_behind(net, start, asked, node):
    """The counted views to which steps, hands, takes and allowed posts lead."""
    view, counts = node
    found = []
    for act, behind in spec.acts(net, start, view).items():
        if act[0] != "post":
            found.append((behind, counts))
            continue
        deed = dict(net[0])[act[1]][2][act[2]][1]
        place = spec.channels(net).index((act[1], deed[1]))
        left = left_on(net, view, (act[1], deed[1]))
        many = left or counts[place]
        lying = start[1][place][-left:] if left else asked[1][place][:many]
        if list(lying) + [deed[2]] == list(asked[1][place][:many + 1]):
            after = list(counts)
            after[place] = many + 1
            found.append((behind, tuple(after)))
    return found


def met(net, start, asked, node):
    view, counts = node
    if view[0] != asked[0]:
        return False
    for place, channel in enumerate(spec.channels(net)):
        left = left_on(net, view, channel)
        lying = start[1][place][-left:] if left else ()
        if counts[place] == 0 and asked[1][place] != lying:
            return False
        if counts[place] > 0 and counts[place] != len(asked[1][place]):
            return False
    return True


def counted_views(net, start, asked):
    first = (spec.first_view(net, start), tuple(0 for _ in spec.channels(net)))
    found, waiting = {first}, [first]
    while waiting:
        for behind in counted_behind(net, start, asked, waiting.pop()):
            if behind not in found:
                found.add(behind)
                waiting.append(behind)
    return found


def reach_paper(net, asked, value, start):
    if not pair(value):
        return False
    if value[0] == "run":
        return end_of(net, value[1], start) == asked
    first = (spec.first_view(net, start), tuple(0 for _ in spec.channels(net)))
    if value[0] != "closed" or not ascending(value[1], lambda part: counted(net, start, part)):
        return False
    inside = set(value[1])
    if first not in inside or any(met(net, start, asked, node) for node in inside):
        return False
    return all(behind in inside for node in inside for behind in counted_behind(net, start, asked, node))


def movable(net, conf):
    return sorted({name for name, _ in spec.steps(net, conf)})


def finished(net, conf):
    return not any(conf[1]) and all(state in machine[1] for state, (_, machine) in zip(conf[0], net[0]))


def dead(net, conf):
    return not spec.steps(net, conf) and not finished(net, conf)


def refusing(net, conf):
    found = []
    for (sender, taker), queue in zip(spec.channels(net), conf[1]):
        for (name, machine), state in zip(net[0], conf[0]):
            deeds = [deed for before, deed, _ in machine[2] if before == state]
            if name == taker and queue and deeds:
                if all(deed[:2] == ("take", sender) and deed[2] != queue[0] for deed in deeds):
                    found.append((sender, taker))
    return found


def seen(net, view):
    """A configuration that looks like a view: each queue has just the first letter."""
    queues = {channel: () for channel in spec.channels(net)}
    for link, hold in zip(net[1], view[1]):
        if hold:
            queues[hold[0], link[1 - link.index(hold[0])]] = (hold[1],)
    return (view[0], tuple(queues[channel] for channel in spec.channels(net)))


def end_paper(net, value, start, fits):
    """Whether the value is a paper for configurations that fit, by a function of the network and a configuration."""
    if not pair(value):
        return False
    if value[0] == "run":
        conf = end_of(net, value[1], start)
        return conf is not None and fits(net, conf)
    if value[0] != "closed" or not closed_views(net, value[1], start):
        return False
    return not any(fits(net, seen(net, view)) for view in value[1])


def load(net, conf, weights):
    given = [1] * len(conf[1]) if weights is None else weights
    return sum(one * len(queue) for one, queue in zip(given, conf[1]))


def load_paper(net, value, weights, start):
    given = tuple(1 for _ in spec.channels(net)) if weights is None else weights
    if type(value) is not tuple or len(value) != 3:
        return False
    if value[0] == "bounded":
        return bounded_paper(net, value[1], value[2], given, start)
    if value[0] != "unbounded":
        return False
    _, run, loop = value
    if type(run) is not tuple or type(loop) is not tuple or spec.fault(net, run + loop, start) is not None:
        return False
    before = spec.configurations(net, run, start)[-1]
    behind = spec.configurations(net, run + loop, start)[-1]
    if before[0] != behind[0] or load(net, behind, given) <= load(net, before, given):
        return False
    for channel, old, new in zip(spec.channels(net), before[1], behind[1]):
        if new[:len(old)] != old:
            return False
        for name, index in loop:
            if new and dict(net[0])[name][2][index][1][:2] == ("take", channel[0]) and name == channel[1]:
                return False
    return True


def bounded_paper(net, numbers, run, weights, start):
    if type(numbers) is not dict or spec.crossed(net, start):
        return False
    if not all(spec.view(net, start, view) and type(numbers[view]) is int for view in numbers):
        return False
    if not closed_views(net, tuple(sorted(numbers)), start) or any(spec.exposed(net, view) for view in numbers):
        return False
    if numbers[spec.first_view(net, start)] < load(net, start, weights):
        return False
    for view in numbers:
        for act, behind in spec.acts(net, start, view).items():
            more = 0
            if act[0] in ("post", "take"):
                word, other, _ = dict(net[0])[act[1]][2][act[2]][1]
                channel = (act[1], other) if word == "send" else (other, act[1])
                more = weights[spec.channels(net).index(channel)] * (1 if word == "send" else -1)
            if numbers[behind] < numbers[view] + more:
                return False
    conf = end_of(net, run, start)
    return conf is not None and load(net, conf, weights) == max(numbers.values())


def all_reached(net, start, most):
    """All configurations that runs lead to, or None if there are more than so many."""
    found, waiting = {start}, [start]
    while waiting and len(found) <= most:
        for behind in spec.steps(net, waiting.pop()).values():
            if behind not in found:
                found.add(behind)
                waiting.append(behind)
    return found if len(found) <= most else None
