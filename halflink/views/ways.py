"""The acts of a network, looked up by states, and the parts of a network which no act joins with one another.

A view is searched as a row: the states of all machines, and behind them the holds of all links. Rows have the order of
their views. A source is an object with the attributes first, a row, machines, the places of the machines in rows, and
parts, the places that belong together, and with the methods row_of and ways_from.
"""

from halflink.networks.configurations import are_states_of, queue_in
from halflink.networks.networks import channels_in, names_in
from halflink.values import is_row
from halflink.views.views import is_loose_hold, is_rest_hold, linked_at, other_end, rest_hold, view_of_start


class ViewWays:
    """The source whose rows are the views of a network from an uncrossed start."""

    def __init__(self, network, start):
        self.start = start
        states, holds = view_of_start(network, start)
        self.first = states + holds
        self.machines = list(range(len(states)))
        self.parts = parts_of(network)
        self._net = network
        self._deeds = deeds_by_state(network, start)
        self._sends = [[[deed for deed in row if deed[0] == "send"] for row in rows] for rows in self._deeds]
        self._rests = [rests_of(network, start, link) for link in network[1]]

    def row_of(self, value):
        """The row of a view, or None if the value is not a view."""
        if not isinstance(value, tuple) or len(value) != 2:
            return None
        states, holds = value
        if not are_states_of(self._net, states) or not is_row(holds, len(self._net[1])):
            return None
        for at, hold in enumerate(holds):
            if hold != () and not self._is_hold(hold, at):
                return None
        return states + holds

    def _is_hold(self, value, at):
        """Whether the value is a hold of a link that is not free."""
        link = self._net[1][at]
        if not is_loose_hold(value, link):
            return False
        return value[2] == 0 or is_rest_hold(self._net, value, self.start, link)

    def view_of(self, row):
        """The view of a row."""
        many = len(self.machines)
        return (row[:many], row[many:])

    def ways_from(self, row, machines):
        """The possible acts that some machines begin, and the rows behind them."""
        found = []
        for at in machines:
            head, tail = row[:at], row[at + 1:]
            for deed in self._deeds[at][row[at]]:
                if deed[0] == "step":
                    found.append((deed[1], head + deed[2] + tail))
                elif deed[0] == "send":
                    self._add_sends(found, row, at, deed)
                else:
                    self._add_take(found, row, at, deed)
        return found

    def _add_sends(self, found, row, at, deed):
        """Add the post and the hands by this deed of a machine, if they are possible."""
        _, act, behind, link, held, far, hands = deed
        hold = row[link]
        if hold == ():
            moved = row[:at] + behind + row[at + 1:link]
            found.append((act, moved + held + row[link + 1:]))
            for hand, far_behind in hands.get(row[far], ()):
                handed = moved + row[link:]
                found.append((hand, handed[:far] + far_behind + handed[far + 1:]))
        elif hold[0] == held[0][0]:
            moved = row[:at] + behind + row[at + 1:link]
            found.append((act, moved + ((hold[0], hold[1], 0),) + row[link + 1:]))

    def _add_take(self, found, row, at, deed):
        """Add the take of a letter of the start by this deed of a machine, if it is possible."""
        _, act, behind, link, sender, letter = deed
        hold = row[link]
        if hold != () and hold[2] > 0 and hold[:2] == (sender, letter):
            rest = self._rests[link - len(self.machines)][hold[2] - 1]
            found.append((act, row[:at] + behind + row[at + 1:link] + (rest,) + row[link + 1:]))

    def exposing_send(self, row, machines):
        """A move of some machines that sends over a link which the other end holds, or None if there is none."""
        if not any(row[len(self.machines):]):
            return None
        for at in machines:
            for _, act, _, link, held, _, _ in self._sends[at][row[at]]:
                hold = row[link]
                if hold != () and hold[0] != held[0][0]:
                    return act[1:]
        return None


def deeds_by_state(network, start):
    """For each machine and each of its states, the list of its deeds there, with all that their acts change.

    Each has the word, the act, and the next state in a tuple; a send and a take also have the place of the link. A send
    has the hold that a post makes of a free link, in a tuple, the place of the other machine, and the hands with it. A
    take has the name of the other machine and the letter.
    """
    names = names_in(network)
    takes = takes_by_state(network)
    lying = [channel for channel, queue in zip(channels_in(network), start[1]) if queue]
    table = []
    for name, machine in network[0]:
        rows = [[] for _ in range(machine[0])]
        for index, (before, deed, behind) in enumerate(machine[2]):
            if deed[0] == "step":
                rows[before].append(("step", ("step", name, index), (behind,)))
                continue
            word, other, letter = deed
            link = len(names) + linked_at(network, name, other)
            if word == "send":
                far = names.index(other)
                hands = hands_with(("hand", name, index, other), takes.get((other, name, letter), {}))
                rows[before].append(("send", ("post", name, index), (behind,), link, ((name, letter, 0),), far, hands))
            elif (other, name) in lying:
                # Other letters than those of the start are taken when they are sent.
                rows[before].append(("take", ("take", name, index), (behind,), link, other, letter))
        table.append(rows)
    return table


def takes_by_state(network):
    """The takes of a letter by one machine from another one, under these two and the letter, and there by the states.

    Each is a pair of an index and the next state.
    """
    takes = {}
    for name, machine in network[0]:
        for index, (before, deed, behind) in enumerate(machine[2]):
            if deed[0] == "take":
                rows = takes.setdefault((name, deed[1], deed[2]), {})
                rows.setdefault(before, []).append((index, behind))
    return takes


def hands_with(begun, takes):
    """Pairs of a hand and the next state of the machine that takes, in a tuple, under the states of that machine."""
    return {
        state: [((*begun, number), (behind,)) for number, behind in takes[state]]
        for state in takes
    }


def rests_of(network, start, link):
    """The holds of a link with 0, 1 and more letters of the start, up to all of them."""
    for sender in link:
        queue = queue_in(network, start, sender, other_end(link, sender))
        if queue:
            return [rest_hold(sender, queue, left) for left in range(len(queue) + 1)]
    return [()]


def parts_of(network):
    """The places in rows that belong together, as one ascending list for each part.

    A machine and a link belong together if the machine has a deed over the link, so each act changes just one part.
    """
    names = names_in(network)
    groups = list(range(len(names) + len(network[1])))
    for at, (name, machine) in enumerate(network[0]):
        for other in sorted({deed[1] for _, deed, _ in machine[2] if deed[0] != "step"}):
            joined = (groups[len(names) + linked_at(network, name, other)], groups[at])
            groups = [min(joined) if group in joined else group for group in groups]
    return [
        [place for place, own in enumerate(groups) if own == group]
        for group in sorted(set(groups))
    ]


def rows_in(source, value):
    """The list of the rows of a tuple of what the source reads, or None if the value is not such a tuple."""
    if not isinstance(value, tuple):
        return None
    rows = [source.row_of(part) for part in value]
    return None if None in rows else rows
