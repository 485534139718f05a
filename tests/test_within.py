"""[14.1] to [14.3] and halflink.engine.within."""

import random
import unittest

from halflink.asked.reach import quiet_rows
from halflink.engine.within import configurations_within, is_quiet_paper, quiet_paper
from halflink.errors import InvalidConfiguration, InvalidNetwork, InvalidNumber, InvalidOperation, TooMany
from halflink.machines.machines import make_machine
from halflink.networks.configurations import configuration_with
from halflink.networks.networks import make_network
from tests import plain, sizes, spec
from tests.case import Case
from tests.samples import CALL, FLOW, LONELY, MEET, NETWORKS, STEPS, TALKERS, WIDE, random_network, random_start
from tests.sizes import cycle
from tests.walks import ONE_WAY
from tests.wrong import ALL, FEW, spoiled, unlike

SMALL = list(NETWORKS) + [random_network(seed) for seed in range(600, 680)]
GOING = configuration_with(CALL, {("a", "b"): ("go",)}, a=1)


def fits(conf, capacity, most):
    lengths = [len(queue) for queue in conf[1]]
    return all(length <= capacity for length in lengths) and (most is None or sum(lengths) <= most)


def within(net, start, capacity, most, limit=2000):
    """All configurations to which runs within the bounds lead, or None for more than the limit."""
    found, waiting = {start}, [start]
    while waiting and len(found) <= limit:
        for behind in spec.steps(net, waiting.pop()).values():
            if behind not in found and fits(behind, capacity, most):
                found.add(behind)
                waiting.append(behind)
    return found if len(found) <= limit else None


def rows_behind(net, row):
    """The rows to which a step leads, or a send and the take of its letter right after it, with the moves."""
    free = tuple(() for _ in spec.channels(net))
    found = {}
    for move, conf in spec.steps(net, (row, free)).items():
        if conf[1] == free:
            found.setdefault(conf[0], []).append((move,))
        for other, behind in spec.steps(net, conf).items():
            if conf[1] != free and behind[1] == free and other[0] != move[0]:
                found.setdefault(behind[0], []).append((move, other))
    return found


def numbers(net):
    """The least numbers of moves to the rows of states, by going round until nothing changes."""
    found = {tuple(0 for _ in net[0]): 0}
    waiting = list(found)
    while waiting:
        row = waiting.pop(0)
        for behind, moves in rows_behind(net, row).items():
            number = found[row] + min(map(len, moves))
            if found.get(behind, number + 1) > number:
                found[behind] = number
                waiting.append(behind)
    return found


def is_row(net, value):
    return spec.row(value, len(net[0])) and all(
        spec.whole(state, 0, machine[0] - 1) for state, (_, machine) in zip(value, net[0]))


def paper(net, row, value):
    """Whether the value is a quiet paper, by the words of the document."""
    if not spec.row(value, 2):
        return False
    if value[0] == "run":
        if spec.fault(net, value[1], spec.first(net)) is not None:
            return False
        passed = spec.configurations(net, value[1], spec.first(net))
        return all(fits(conf, 1, 1) for conf in passed) and passed[-1] == (row, spec.first(net)[1])
    if value[0] != "closed" or not plain.ascending(value[1], lambda part: is_row(net, part)):
        return False
    inside = set(value[1])
    if tuple(0 for _ in net[0]) not in inside or row in inside:
        return False
    return all(set(rows_behind(net, part)) <= inside for part in inside)


class Within(Case):
    def test_document(self):
        self.same([quiet_paper(CALL, (1, 1)), quiet_paper(CALL, (1, 0))[0],
                   len(list(configurations_within(FLOW, capacity=3)))],
                  [("run", (("a", 0), ("b", 0))), "closed", 8])

    def test_against_a_plain_search(self):
        sizes_seen = []
        for seed, network in enumerate(SMALL):
            rng = random.Random(seed)
            for start in (None, random_start(seed, network), random_start(seed + 500, network)):
                first = plain.start_of(network, start)
                capacity, most = rng.choice((1, 2, 3, 4)), rng.choice((None, None, 1, 2, 3, 7))
                given = {"capacity": capacity, "most": most, "start": start}
                if not fits(first, capacity, most):
                    self.fails(InvalidOperation, configurations_within, network, **given)
                    continue
                found = within(network, first, capacity, most)
                if found is None:
                    self.fails((TooMany, 2000), configurations_within, network, **given)
                    continue
                sizes_seen.append(len(found))
                self.gives(sorted(found), configurations_within, network, **given)
                if start is None and capacity == 1 and most is None:
                    self.gives(sorted(found), configurations_within, network)
        self.assertGreater(len([size for size in sizes_seen if size > 20]), 20)

    def test_bounds(self):
        for capacity in (1, 2, 3, 19, 20):
            for most in (None, 1, 2, 3, 99, 100):
                many = min(capacity, most or 100)
                found = sorted(((0, state), (("x",) * length, ())) for state in (0, 1) for length in range(many + 1))
                self.gives(found, configurations_within, FLOW, capacity=capacity, most=most)
        # The most counts the letters of all queues.
        pair = make_network(
            ("c", "d"), ("c", "e"), c=make_machine(1, (0, ("send", "d", "x"), 0), (0, ("send", "e", "y"), 0)),
            d=make_machine(1), e=make_machine(1))
        for capacity, most, many in ((1, None, 4), (1, 1, 3), (1, 2, 4), (2, None, 9), (2, 3, 8), (2, 2, 6), (3, 2, 6)):
            self.assertEqual(len(list(configurations_within(pair, capacity=capacity, most=most))), many)

    def test_crossed_configurations(self):
        found = list(configurations_within(MEET))
        self.same(found, sorted(within(MEET, spec.first(MEET), 1, None)))
        self.assertTrue(any(spec.crossed(MEET, conf) for conf in found))
        start = configuration_with(TALKERS, {("u", "v"): ("x",), ("v", "u"): ("z",)})
        self.gives(sorted(within(TALKERS, start, 1, None)), configurations_within, TALKERS, start=start)
        self.fails(InvalidOperation, configurations_within, TALKERS, start=start, most=1)

    def test_starts_at_the_bounds(self):
        for length in (1, 2, 20):
            start = configuration_with(FLOW, {("c", "d"): ("x",) * length}, d=1)
            self.gives([start], configurations_within, FLOW, capacity=length, start=start)
            self.gives([start], configurations_within, FLOW, capacity=20, most=length, start=start)
            if length > 1:
                self.fails(InvalidOperation, configurations_within, FLOW, capacity=length - 1, start=start)
                self.fails(InvalidOperation, configurations_within, FLOW, capacity=20, most=length - 1, start=start)
        start = configuration_with(FLOW, {("c", "d"): ("x",) * 21})
        self.fails(InvalidOperation, configurations_within, FLOW, capacity=20, start=start)
        start = configuration_with(WIDE, {channel: ("x",) * 20 for channel in spec.channels(WIDE)[:5]})
        self.fails(InvalidOperation, configurations_within, WIDE, capacity=20, most=99, start=start)

    def test_2000_and_2001_configurations(self):
        self.assertEqual(len(list(configurations_within(sizes.VIEWS_2000))), 2000)
        self.fails((TooMany, 2000), configurations_within, sizes.VIEWS_2001)
        self.assertEqual(len(list(configurations_within(sizes.FLOW_2000))), 2000)
        self.fails((TooMany, 2000), configurations_within, sizes.FLOW_2000, capacity=2)

    def test_errors(self):
        start = configuration_with(FLOW, {("c", "d"): ("x", "x")})
        for value in unlike(spec.network):
            self.fails(InvalidNetwork, configurations_within, value, capacity=0, most=0, start=0)
        for value in unlike(lambda part: spec.whole(part, 1, 20), ALL + (21, 20.5)):
            self.fails((InvalidNumber, value), configurations_within, FLOW, capacity=value, most=0, start=0)
        for value in unlike(lambda part: part is None or spec.whole(part, 1, 100), ALL + (101,)):
            self.fails((InvalidNumber, value), configurations_within, FLOW, most=value, start=0)
        for value in unlike(lambda part: part is None or spec.configuration(FLOW, part)):
            self.fails(InvalidConfiguration, configurations_within, FLOW, start=value)
        self.fails(InvalidOperation, configurations_within, FLOW, start=start)
        late = configuration_with(sizes.LINKED_2001, {("a", "b"): ("x", "x")})
        self.fails(InvalidOperation, configurations_within, sizes.LINKED_2001, start=late)


class Quiet(Case):
    def test_against_plain_searches(self):
        seen = {"run": 0, "closed": 0}
        for seed, network in enumerate(SMALL):
            found = numbers(network)
            rng = random.Random(seed)
            rows = [tuple(rng.randrange(machine[0]) for _, machine in network[0]) for _ in range(6)]
            for row in set(rows) | set(rng.sample(sorted(found), min(4, len(found)))):
                made = quiet_paper(network, row)
                self.gives(made, quiet_paper, network, row)
                self.gives(True, is_quiet_paper, network, row, made)
                self.assertTrue(paper(network, row, made))
                seen[made[0]] += 1
                if row in found:
                    self.assertEqual((made[0], len(made[1])), ("run", found[row]))
                else:
                    self.same(made, ("closed", tuple(sorted(found))))
        self.assertGreater(min(seen.values()), 100)

    def test_the_same_rows_for_all_bounds(self):
        # [14.2]: the rows with empty queues are the same with any bounds and without.
        for network, start in ONE_WAY:
            if start is not None:
                continue
            rows = sorted(quiet_rows(network))
            for row in rows:
                self.assertEqual(quiet_paper(network, row)[0], "run")
            for capacity, most in ((1, 1), (1, None), (2, 3), (3, None)):
                found = within(network, spec.first(network), capacity, most)
                if found is not None:
                    self.same(sorted({conf[0] for conf in found if not any(conf[1])}), rows)
            self.same(sorted(numbers(network)), rows)

    def test_papers_of_other_makers(self):
        seen = {True: 0, False: 0}
        for seed, network in enumerate(SMALL[:40]):
            rng = random.Random(seed)
            every = [()]
            for _, machine in network[0]:
                every = [row + (state,) for row in every for state in range(machine[0])]
            for row in rng.sample(every, min(4, len(every))):
                made = quiet_paper(network, row)
                values = [("run", ()), ("closed", ()), made[::-1]]
                for _ in range(4):
                    more, waiting = set(numbers(network)), rng.sample(every, min(2, len(every)))
                    while waiting:
                        part = waiting.pop()
                        if part not in more:
                            more.add(part)
                            waiting += rows_behind(network, part)
                    whole = tuple(sorted(more))
                    at = rng.randrange(len(whole))
                    values += [("closed", whole), ("closed", whole[:at] + whole[at + 1:]), ("closed", whole[::-1]),
                               ("closed", whole[:at] + whole[at:at + 1] + whole[at:]), ("closed", list(whole)),
                               ("run", whole)]
                moves = [(name, index) for name, machine in network[0] for index in range(len(machine[2]))]
                if made[0] == "run" and moves:
                    for at in range(len(made[1]) + 1):
                        move = rng.choice(moves)
                        values += [("run", made[1][:at] + (move,) + made[1][at:]), ("run", made[1][:at]),
                                   ("run", made[1][:at] + (move,) * 2 + made[1][at:])]
                for value in values:
                    wanted = paper(network, row, value)
                    seen[wanted] += 1
                    self.gives(wanted, is_quiet_paper, network, row, value)
        self.assertGreater(min(seen.values()), 150)

    def test_longer_runs(self):
        around = (("a", 0), ("b", 0), ("b", 1), ("a", 1))
        self.gives(True, is_quiet_paper, CALL, (1, 1), ("run", around * 300 + around[:2]))
        self.gives(False, is_quiet_paper, CALL, (1, 1), ("run", around * 300 + around[:1]))
        self.gives(True, is_quiet_paper, CALL, (0, 0), ("run", around))
        # Two letters at once are too many, in one queue or in two.
        many = make_network(("c", "d"), c=make_machine(1, (0, ("send", "d", "x"), 0)),
                            d=make_machine(1, (0, ("take", "c", "x"), 0)))
        self.gives(True, is_quiet_paper, many, (0, 0), ("run", (("c", 0), ("d", 0)) * 2))
        self.gives(False, is_quiet_paper, many, (0, 0), ("run", (("c", 0),) * 2 + (("d", 0),) * 2))
        self.gives(True, is_quiet_paper, WIDE, (0,) * 6, ("run", ()))
        two = (("left", 0), ("west", 0), ("mid", 0), ("right", 0))
        one = (("left", 0), ("right", 0), ("west", 0), ("mid", 0))
        row = spec.configurations(WIDE, one, spec.first(WIDE))[-1][0]
        self.gives(True, is_quiet_paper, WIDE, row, ("run", one))
        self.gives(False, is_quiet_paper, WIDE, row, ("run", two))

    def test_steps_while_a_letter_lies_there(self):
        network = make_network(
            ("c", "d"), c=make_machine(3, (0, ("send", "d", "x"), 1), (1, ("step",), 2)),
            d=make_machine(3, (0, ("step",), 1), (1, ("take", "c", "x"), 2)))
        for run in ((("c", 0), ("c", 1), ("d", 0), ("d", 1)), (("d", 0), ("c", 0), ("d", 1), ("c", 1))):
            self.gives(True, is_quiet_paper, network, (2, 2), ("run", run))
        self.same(len(quiet_paper(network, (2, 2))[1]), 4)
        self.same(quiet_paper(network, (2, 0)), ("closed", ((0, 0), (0, 1), (1, 2), (2, 2))))

    def test_2000_and_2001_rows(self):
        far = tuple(machine[0] - 1 for _, machine in sizes.VIEWS_2000[0])
        self.assertEqual(len(quiet_paper(sizes.VIEWS_2000, far)[1]), sum(far))
        self.fails((TooMany, 2000), quiet_paper, sizes.VIEWS_2001, (0, 0, 0))
        self.gives(True, is_quiet_paper, sizes.VIEWS_2001, (0, 0, 0), ("run", ()))
        self.gives(False, is_quiet_paper, sizes.VIEWS_2001, (0, 0, 0), ("closed", ()))
        # A row that is not reached: 2000 rows are looked at, 2001 are too many.
        for network, wanted in ((sizes.VIEWS_2000, 2000), (sizes.VIEWS_2001, None)):
            more = make_network(z=make_machine(2), **dict(network[0]))
            row = (0, 0, 0, 1)
            if wanted:
                made = quiet_paper(more, row)
                self.assertEqual((made[0], len(made[1])), ("closed", wanted))
                self.gives(True, is_quiet_paper, more, row, made)
                self.gives(False, is_quiet_paper, more, row, ("closed", made[1][:-1]))
            else:
                self.fails((TooMany, 2000), quiet_paper, more, row)
        # A run that is found at once does not help.
        self.fails((TooMany, 2000), quiet_paper, make_network(a=cycle(3), b=cycle(23), e=cycle(29)), (1, 0, 0))
        # More rows than 2000 may be in a paper.
        whole = tuple((one, two, three) for one in range(3) for two in range(23) for three in range(29))
        more = make_network(z=make_machine(2), **dict(sizes.VIEWS_2001[0]))
        self.gives(True, is_quiet_paper, more, (0, 0, 0, 1), ("closed", tuple(row + (0,) for row in whole)))

    def test_spoiled_papers(self):
        right = 0
        for network, row in ((CALL, (1, 1)), (CALL, (1, 0)), (FLOW, (0, 1)), (STEPS, (2, 0)), (LONELY, (0,))):
            made = quiet_paper(network, row)
            for value in list(spoiled(made, FEW + ("run", "closed", (0, 0)))) + list(ALL):
                wanted = paper(network, row, value)
                right += wanted
                self.gives(wanted, is_quiet_paper, network, row, value)
        self.assertGreater(right, 4)
        self.gives(False, is_quiet_paper, CALL, (1, 0), ("closed", ((0, 0), (True, 1))))
        self.gives(False, is_quiet_paper, CALL, (1, 1), ("run", (("a", False), ("b", 0))))

    def test_errors(self):
        for function, rest in ((quiet_paper, ()), (is_quiet_paper, (None,)), (is_quiet_paper, (("run", ()),))):
            for value in unlike(spec.network):
                self.fails(InvalidNetwork, function, value, 0, *rest)
            for value in unlike(lambda part: is_row(CALL, part), ALL + ((0, 2), (0, True), (0,), (0, 0, 0), [0, 0])):
                self.fails(InvalidOperation, function, CALL, value, *rest)
                self.fails(InvalidOperation, function, sizes.VIEWS_2001, (value,), *rest)


if __name__ == "__main__":
    unittest.main()
