"""Desks once more: the machines, links, states and queues as plain dicts, and every group as a copy of them."""

import copy

from tests import spec

LENGTHS = {"do": 2, "add": 3, "drop": 2, "join": 3, "part": 3, "swap": 4}


class Refused(Exception):
    """What a group fails with: the name of the error, and the value that it keeps."""


def frozen(stage):
    """The network and the configuration of a stage."""
    machines, links, states, queues, _, _ = stage
    net = (tuple(sorted(machines.items())), tuple(sorted(links)))
    conf = (tuple(states[name] for name in sorted(machines)), tuple(queues[key] for key in spec.channels(net)))
    return net, conf


class PlainDesk:
    """A desk as the stages that stand and those that were undone."""

    def __init__(self, net, start=None):
        conf = start or spec.first(net)
        states = dict(zip((name for name, _ in net[0]), conf[0]))
        self.stages = [(dict(net[0]), set(net[1]), states, dict(zip(spec.channels(net), conf[1])), None, 0)]
        self.undone = []

    def perform(self, group):
        """The number of groups that stand, or an error."""
        machines, links, states, queues, _, done = copy.deepcopy(self.stages[-1])
        stage = [machines, links, states, queues, group, done]
        if type(group) is not tuple:
            raise Refused("InvalidOperation")
        for operation in group:
            if type(operation) is not tuple or not operation or type(operation[0]) is not str:
                raise Refused("InvalidOperation")
            if LENGTHS.get(operation[0]) != len(operation):
                raise Refused("InvalidOperation")
            getattr(self, operation[0])(stage, *operation[1:])
            if not spec.network(frozen(stage)[0]):
                raise Refused("InvalidOperation")
        if group:
            self.stages.append(tuple(stage))
            self.undone = []
        return len(self.stages) - 1

    def named(self, stage, *names):
        for name in names:
            if type(name) is not str or name not in stage[0]:
                raise Refused("UnknownName", name)

    def do(self, stage, moves):
        net, conf = frozen(stage)
        at = spec.fault(net, moves, conf)
        if at is not None:
            raise Refused("InvalidRun", at)
        conf = spec.configurations(net, moves, conf)[-1]
        stage[2] = dict(zip((name for name, _ in net[0]), conf[0]))
        stage[3] = dict(zip(spec.channels(net), conf[1]))
        stage[5] += len(moves)

    def add(self, stage, name, machine):
        if not spec.machine(machine):
            raise Refused("InvalidMachine")
        if not spec.name(name) or name in stage[0]:
            raise Refused("InvalidOperation")
        stage[0][name] = machine
        stage[2][name] = 0

    def drop(self, stage, name):
        self.named(stage, name)
        if any(name in link for link in stage[1]):
            raise Refused("InvalidOperation")
        del stage[0][name], stage[2][name]

    def join(self, stage, one, other):
        self.named(stage, one, other)
        link = tuple(sorted((one, other)))
        if link in stage[1] or one == other:
            raise Refused("InvalidOperation")
        stage[1].add(link)
        stage[3][one, other] = stage[3][other, one] = ()

    def part(self, stage, one, other):
        self.named(stage, one, other)
        link = tuple(sorted((one, other)))
        if link not in stage[1] or stage[3].pop((one, other)) or stage[3].pop((other, one)):
            raise Refused("InvalidOperation")
        stage[1].remove(link)

    def swap(self, stage, name, machine, state):
        self.named(stage, name)
        if not spec.machine(machine):
            raise Refused("InvalidMachine")
        if not spec.whole(state, 0, machine[0] - 1):
            raise Refused("InvalidNumber", state)
        stage[0][name] = machine
        stage[2][name] = state

    def undo(self, many):
        if many > len(self.stages) - 1:
            raise Refused("NothingToUndo", many)
        for _ in range(many):
            self.undone.append(self.stages.pop())
        return len(self.stages) - 1

    def redo(self, many):
        if many > len(self.undone):
            raise Refused("NothingToUndo", many)
        for _ in range(many):
            self.stages.append(self.undone.pop())
        return len(self.stages) - 1

    def now(self):
        return frozen(self.stages[-1])

    def log(self):
        return tuple(stage[4] for stage in self.stages[1:])

    def done(self):
        return self.stages[-1][5]
