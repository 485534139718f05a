"""[5.3], [5.4] and the functions of halflink.views.arranged."""

import random
import unittest

from halflink.errors import Crossed, InvalidConfiguration, InvalidNetwork, InvalidRun, TooMany
from halflink.machines.machines import make_machine
from halflink.networks.configurations import configuration_with
from halflink.networks.networks import make_network
from halflink.views.arranged import arrangement_of, is_arrangement
from halflink.views.views import after_path, is_path, run_of_path, view_after
from tests import plain, spec
from tests.case import Case
from tests.samples import CALL, FLOW, LONELY, MEET, STEPS, TALKERS
from tests.walks import BOTH_WAYS, GOING, LETTERS, STARTS, TWENTY, walk
from tests.wrong import ALL, FEW, spoiled, unlike


def is_right(network, run, value, start):
    return spec.path_fault(network, value, start) is None and (
        spec.logs(network, spec.path_run(value)) == spec.logs(network, run))


class Arranged(Case):
    def arranged(self, network, run, start):
        first = plain.start_of(network, start)
        path = arrangement_of(network, run, start=start)
        self.same(arrangement_of(network, run, start=start), path)
        self.assertTrue(is_right(network, run, path, first))
        self.gives(True, is_arrangement, network, run, path, start=start)
        return path

    def test_document(self):
        self.gives((("hand", "c", 0, "d", 1), ("post", "c", 0)), arrangement_of, FLOW, (("c", 0), ("c", 0), ("d", 1)))

    def test_no_moves(self):
        for network, start in STARTS:
            self.gives((), arrangement_of, network, (), start=start)
            self.gives(True, is_arrangement, network, (), (), start=start)

    def test_steps(self):
        self.gives((("step", "one", 0), ("step", "one", 2)), arrangement_of, STEPS, (("one", 0), ("one", 2)))
        self.fails((InvalidRun, 0), arrangement_of, LONELY, (("a", 0),))

    def test_letters_that_stay(self):
        self.gives((("post", "c", 0),) * 3 + (("step", "d", 0),), arrangement_of, FLOW,
                   (("c", 0), ("c", 0), ("c", 0), ("d", 0)))

    def test_sends_behind_letters_of_the_start(self):
        # In the run, the sends come before the takes; in a path, the letters of the start could not be taken then.
        start = configuration_with(FLOW, {("c", "d"): ("x", "x")})
        run = (("c", 0), ("c", 0), ("d", 1), ("c", 0), ("d", 1))
        path = self.arranged(FLOW, run, start)
        self.same(path, (("take", "d", 1),) * 2 + (("post", "c", 0),) * 3)
        path = self.arranged(FLOW, run + (("d", 1),), start)
        self.same(path, (("take", "d", 1),) * 2 + (("hand", "c", 0, "d", 1),) + (("post", "c", 0),) * 2)
        # One letter of the start stays: all sends are posts, but they still wait for the take.
        path = self.arranged(FLOW, (("c", 0), ("d", 1), ("c", 0)), start)
        self.same(path, (("take", "d", 1),) + (("post", "c", 0),) * 2)
        self.gives(False, is_arrangement, FLOW, (("c", 0), ("d", 1)), (("post", "c", 0), ("take", "d", 1)), start=start)
        self.gives(True, is_arrangement, FLOW, (("c", 0), ("d", 1)), (("take", "d", 1), ("post", "c", 0)), start=start)

    def test_random_runs(self):
        crossed = changed = 0
        for seed, (network, start) in enumerate(STARTS * 3):
            first = plain.start_of(network, start)
            run, passed = walk(seed, network, first, seed % 25)
            crossing = [at for at, conf in enumerate(passed) if spec.crossed(network, conf)]
            if crossing:
                crossed += 1
                self.fails((Crossed, run[:crossing[0]]), arrangement_of, network, run, start=start)
                self.gives(False, is_arrangement, network, run, (), start=start)
                continue
            path = self.arranged(network, run, start)
            changed += run_of_path(network, path, start=start) != run
            # [5.3]
            seen = first
            for at in range(len(path) + 1):
                seen = after_path(network, path[:at], start=start)
                view = view_after(network, path[:at], start=start)
                self.assertEqual(spec.crossed(network, seen), [])
                self.same(seen[0], view[0])
                for channel, queue, old in zip(spec.channels(network), seen[1], first[1]):
                    hold = dict(zip(network[1], view[1]))[tuple(sorted(channel))]
                    self.assertEqual(bool(queue), bool(hold) and hold[0] == channel[0])
                    if queue:
                        self.same(queue[0], hold[1])
                        if hold[2]:
                            self.same(queue, old[-hold[2]:])
            self.same(seen, passed[-1])
        self.assertGreater(crossed, 60)
        self.assertGreater(changed, 60)

    def test_other_arrangements(self):
        # Any order of acts of different machines will do.
        pair = make_network(("a", "b"), ("c", "d"), a=CALL[0][0][1], b=CALL[0][1][1],
                            c=make_machine(1, (0, ("send", "d", "x"), 0)), d=make_machine(1, (0, ("step",), 0)))
        run = (("a", 0), ("c", 0), ("b", 0), ("d", 0))
        acts = (("hand", "a", 0, "b", 0), ("post", "c", 0), ("step", "d", 0))
        for order in ((0, 1, 2), (0, 2, 1), (1, 0, 2), (1, 2, 0), (2, 0, 1), (2, 1, 0)):
            self.gives(True, is_arrangement, pair, run, tuple(acts[at] for at in order))
        self.gives(False, is_arrangement, pair, run, acts[:2])
        self.gives(False, is_arrangement, pair, run, acts + acts[2:])
        self.gives(False, is_arrangement, pair, run, (("post", "a", 0),) + acts[1:])

    def test_spoiled(self):
        right = 0
        for seed, (network, start) in enumerate(STARTS[:20]):
            first = plain.start_of(network, start)
            run, passed = walk(seed, network, first, 4)
            if any(spec.crossed(network, conf) for conf in passed):
                continue
            path = arrangement_of(network, run, start=start)
            for value in spoiled(path, FEW + ("hand", "post", "take")):
                wanted = is_right(network, run, value, first)
                right += wanted
                self.gives(wanted, is_arrangement, network, run, value, start=start)
        self.assertGreater(right, 10)
        for value in ALL:
            self.gives(value == () and type(value) is tuple, is_arrangement, CALL, (), value)
            self.gives(False, is_arrangement, CALL, (("a", 0),), value)

    def test_runs_that_cross(self):
        run = (("p", 0), ("q", 0))
        self.fails((Crossed, run), arrangement_of, MEET, run)
        self.gives(False, is_arrangement, MEET, run, (("post", "p", 0), ("post", "q", 0)))
        # Behind the crossing, the run goes on; only the beginning is kept.
        rash = make_network(("p", "q"), p=make_machine(1, (0, ("send", "q", "x"), 0), (0, ("take", "q", "y"), 0)),
                            q=make_machine(1, (0, ("send", "p", "y"), 0), (0, ("take", "p", "x"), 0)))
        run = (("p", 0), ("p", 0), ("q", 0), ("p", 1), ("q", 1), ("q", 1))
        self.fails((Crossed, run[:3]), arrangement_of, rash, run)
        for value in ((), (("hand", "p", 0, "q", 1),), (("post", "p", 0),), (("hand", "q", 0, "p", 1),)):
            self.gives(False, is_arrangement, rash, run, value)

    def test_long_runs(self):
        run = (("c", 0),) * 1200 + (("d", 1),) * 1100
        path = arrangement_of(FLOW, run)
        self.same(path, (("hand", "c", 0, "d", 1),) * 1100 + (("post", "c", 0),) * 100)
        self.gives(True, is_arrangement, FLOW, run, path)
        self.gives(False, is_arrangement, FLOW, run, path[1:])
        self.gives(False, is_arrangement, FLOW, run, path[::-1])
        run = (("a", 0), ("b", 0), ("b", 1), ("a", 1)) * 500
        path = arrangement_of(CALL, run)
        self.same(path, (("hand", "a", 0, "b", 0), ("hand", "b", 1, "a", 1)) * 500)
        self.gives(True, is_path, CALL, path)
        run = (("c", 0),) * 30 + (("d", 1),) * 20
        self.same(arrangement_of(FLOW, run, start=TWENTY), (("take", "d", 1),) * 20 + (("post", "c", 0),) * 30)

    def test_errors(self):
        more = configuration_with(FLOW, {("c", "d"): ("x",) * 21})
        for function, rest in ((arrangement_of, ()), (is_arrangement, (None,))):
            for value in unlike(spec.network):
                self.fails(InvalidNetwork, function, value, 0, *rest, start=0)
            for value in unlike(lambda part: part is None or spec.configuration(FLOW, part)):
                self.fails(InvalidConfiguration, function, FLOW, 0, *rest, start=value)
            self.fails((TooMany, 20), function, FLOW, 0, *rest, start=more)
            self.fails((Crossed, ()), function, TALKERS, 0, *rest, start=BOTH_WAYS)
            for value in ALL:
                fault = spec.fault(CALL, value, GOING)
                if fault is not None:
                    self.fails((InvalidRun, fault), function, CALL, value, *rest, start=GOING)
            # A run that crosses a link and is none behind that.
            self.fails((InvalidRun, 2), function, MEET, (("p", 0), ("q", 0), ("q", 1)), *rest)
        rng = random.Random(1)
        for value in rng.sample(ALL, 20):
            self.gives(value == (), is_arrangement, TALKERS, (), value, start=LETTERS)


if __name__ == "__main__":
    unittest.main()
