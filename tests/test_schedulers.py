"""The schedulers of halflink.engine.schedulers."""

import random
import unittest

from halflink.engine.schedulers import Alternating, Last, Named, Quiet, QuietTurns, Scheduler, Turns
from halflink.errors import InvalidNetwork, InvalidOperation
from halflink.machines.machines import make_machine
from halflink.networks.networks import make_network
from tests import spec
from tests.case import Case
from tests.plainsched import Plain, moves_fit
from tests.samples import CALL, FLOW, WIDE
from tests.wrong import ALL, FEW, spoiled, unlike

ANY = make_network(
    ("a", "b"), ("b", "c"),
    a=make_machine(1, (0, ("send", "b", "x"), 0), (0, ("send", "b", "y"), 0), (0, ("step",), 0),
                   (0, ("take", "b", "z"), 0)),
    b=make_machine(1, (0, ("send", "a", "z"), 0), (0, ("step",), 0), (0, ("take", "a", "x"), 0),
                   (0, ("take", "c", "x"), 0)),
    c=make_machine(2, (0, ("step",), 1), (0, ("send", "b", "x"), 0), (1, ("step",), 0)),
    d=make_machine(1, (0, ("step",), 0)))
MOVES = [(name, index) for name, machine in ANY[0] for index in range(len(machine[2]))]


def made(rng, depth=2):
    """A scheduler and the plain one of the same kind."""
    kind = rng.randrange(8 if depth else 6)
    if kind == 0:
        return Scheduler(), Plain("first")
    if kind == 1:
        return Last(), Plain("last")
    if kind == 2:
        return Turns(), Plain("turns")
    if kind == 3:
        return Quiet(ANY), Plain("quiet", ANY)
    if kind == 4:
        return QuietTurns(ANY), Plain("quiet turns", ANY)
    if kind == 5:
        names = [rng.choice(("a", "b", "c", "d", "e", "zz")) for _ in range(rng.randint(0, 3))]
        return (Named(*names) if rng.random() < 0.5 else Named.by(tuple(names))), Plain("named", *names)
    one, other = made(rng, depth - 1), made(rng, depth - 1)
    if rng.random() < 0.2:
        other = one
    use(rng, *one, rng.randint(0, 3))
    # Copies of both, as they are now.
    return Alternating(one[0], other[0]), Plain("alternating", one[1].copy(), other[1].copy())


def use(rng, scheduler, plain, times):
    for _ in range(times):
        moves = tuple(sorted(rng.sample(MOVES, rng.randint(1, 5))))
        assert scheduler(moves) == plain.choose(moves)


class Choosing(Case):
    def test_document(self):
        moves = (("a", 0), ("b", 0), ("b", 1))
        self.same([Scheduler()(moves), Last()(moves)], [("a", 0), ("b", 1)])
        turns = Turns()
        self.same([turns(moves) for _ in range(3)], [("a", 0), ("b", 0), ("a", 0)])

    def test_against_plain_ones(self):
        texts = set()
        for seed in range(400):
            rng = random.Random(seed)
            scheduler, plain = made(rng)
            self.same(str(scheduler), plain.text())
            texts.add(plain.kind)
            for _ in range(30):
                moves = tuple(sorted(rng.sample(MOVES, rng.randint(1, 6))))
                if rng.random() < 0.2:
                    moves = tuple(sorted(set(moves) | {("d", 80), ("z", 3)}))
                if rng.random() < 0.1:
                    moves = moves[::-1]
                wanted = plain.choose(moves)
                if wanted is None:
                    self.fails(InvalidOperation, scheduler, moves)
                else:
                    self.same(scheduler(moves), wanted)
            self.same(str(scheduler), plain.text())
        self.assertEqual(len(texts), 7)

    def test_turns(self):
        turns = Turns()
        self.same([turns(moves) for moves in (
            (("b", 3), ("b", 4), ("c", 0)), (("a", 1), ("b", 0)), (("a", 1), ("b", 0), ("c", 0)), (("c", 2),),
            (("a", 7), ("b", 1), ("c", 0), ("d", 5)), (("d", 0), ("d", 1)))],
            [("b", 3), ("a", 1), ("b", 0), ("c", 2), ("d", 5), ("d", 0)])
        # A name is greater by Python's order, not by its length.
        turns = Turns()
        self.same([turns((("aa", 0), ("ab", 0), ("b", 0))) for _ in range(4)],
                  [("aa", 0), ("ab", 0), ("b", 0), ("aa", 0)])

    def test_quiet(self):
        quiet = Quiet(ANY)
        for moves, wanted in (
            (MOVES, ("a", 3)), ((("a", 0), ("a", 2), ("b", 0)), ("a", 2)), ((("a", 1), ("b", 0)), ("a", 1)),
            ((("a", 2), ("b", 3)), ("b", 3)), ((("c", 0), ("c", 2)), ("c", 2)), ((("b", 0),), ("b", 0)),
        ):
            self.same(quiet(tuple(moves)), wanted)
        turns = QuietTurns(ANY)
        takes = (("a", 0), ("a", 3), ("b", 2), ("b", 3), ("d", 0))
        self.same([turns(takes) for _ in range(3)], [("a", 3), ("b", 2), ("a", 3)])
        # The last one of all counts, whatever its kind was.
        self.same(turns((("a", 2), ("b", 1), ("c", 0))), ("b", 1))
        self.assertTrue(issubclass(QuietTurns, Quiet) and issubclass(QuietTurns, Turns))

    def test_named(self):
        moves = (("a", 0), ("b", 2), ("b", 3), ("c", 0))
        for names, wanted in (((), ("a", 0)), (("c", "b"), ("c", 0)), (("zz", "b"), ("b", 2)), (("zz",), ("a", 0)),
                              (("b", "b"), ("b", 2)), (("b", "a"), ("b", 2))):
            self.same([Named(*names)(moves), Named.by(names)(moves)], [wanted] * 2)
            self.same(str(Named(*names)), " ".join(("named",) + names))

    def test_alternating_asks_copies(self):
        moves = (("a", 0), ("b", 0), ("c", 0))
        turns = Turns()
        turns(moves)
        both = Alternating(turns, turns)
        # The copies go on from b on, each on its own; the one outside does not.
        self.same([both(moves) for _ in range(5)], [("b", 0), ("b", 0), ("c", 0), ("c", 0), ("a", 0)])
        self.same(turns(moves), ("b", 0))
        self.same(both(moves), ("a", 0))
        # One within another goes on where it was, the one whose turn it is first.
        inner = Alternating(Scheduler(), Last())
        self.same(inner(moves), ("a", 0))
        outer = Alternating(inner, Named("b"))
        self.same([outer(moves) for _ in range(6)], [("c", 0), ("b", 0), ("a", 0), ("b", 0), ("c", 0), ("b", 0)])
        self.same(inner(moves), ("c", 0))
        self.same([str(both), str(inner), str(outer)], ["turns and turns", "first and last", "first and last and named b"])

    def test_texts(self):
        for scheduler, text in (
            (Scheduler(), "first"), (Last(), "last"), (Turns(), "turns"), (Quiet(CALL), "quiet"),
            (QuietTurns(CALL), "quiet turns"), (Named("b", "a"), "named b a"), (Named(), "named"),
            (Alternating(Turns(), Last()), "turns and last"),
        ):
            self.same(str(scheduler), text)
            self.assertIsInstance(scheduler, Scheduler)


class Errors(Case):
    def kinds(self):
        return [Scheduler(), Last(), Turns(), Quiet(WIDE), QuietTurns(WIDE), Named("mid"), Alternating(Turns(), Last()),
                Alternating(QuietTurns(WIDE), Turns())]

    def test_moves(self):
        moves = (("left", 0), ("mid", 0), ("mid", 1), ("west", 0))
        for value in list(spoiled(moves, FEW + (("mid", 0),))) + list(ALL) + [(("a", 90),), (("a", 89), ("a", 89))]:
            for scheduler in self.kinds():
                if not moves_fit(value):
                    self.fails(InvalidOperation, scheduler, value)
                elif not isinstance(scheduler, Quiet) and "quiet" not in str(scheduler):
                    self.assertIn(scheduler(value), value)
        for scheduler in self.kinds():
            self.assertIn(scheduler(moves), moves)

    def test_moves_that_the_network_does_not_have(self):
        for scheduler in (Quiet(CALL), QuietTurns(CALL), Alternating(Quiet(CALL), Last())):
            for moves in ((("c", 0),), (("a", 2),), (("a", 0), ("a", 2)), (("a", 0), ("zz", 0)), (("a", 89),)):
                self.fails(InvalidOperation, scheduler, moves)
            self.same(scheduler((("a", 1), ("b", 0))), ("a", 1))
        self.same(Turns()((("a", 89),)), ("a", 89))

    def test_an_error_changes_nothing(self):
        moves = (("a", 0), ("b", 0))
        for make in (Turns, lambda: QuietTurns(CALL), lambda: Alternating(Turns(), QuietTurns(CALL)),
                     lambda: Alternating(QuietTurns(CALL), Last())):
            plain, scheduler = make(), make()
            wanted = [plain(moves) for _ in range(6)]
            found = []
            for _ in range(6):
                for value in (None, (), moves[::-1], (("a", True),)):
                    self.fails(InvalidOperation, scheduler, value)
                found.append(scheduler(moves))
            self.same(found, wanted)
        # The inner one refuses a move; its turn comes again.
        both = Alternating(QuietTurns(CALL), Last())
        self.fails(InvalidOperation, both, (("a", 0), ("zz", 0)))
        self.same([both(moves), both((("a", 0), ("zz", 0)))], [("b", 0), ("zz", 0)])
        self.fails(InvalidOperation, both, (("a", 0), ("zz", 0)))
        self.same([both(moves), both(moves)], [("b", 0), ("b", 0)])

    def test_making(self):
        for value in unlike(spec.network):
            self.fails(InvalidNetwork, Quiet, value)
            self.fails(InvalidNetwork, QuietTurns, value)
        for value in unlike(spec.name):
            self.fails(InvalidOperation, Named, value)
            self.fails(InvalidOperation, Named, "a", value)
            self.fails(InvalidOperation, Named.by, ("a", value))
        for value in unlike(lambda part: type(part) is tuple and all(spec.name(name) for name in part)):
            self.fails(InvalidOperation, Named.by, value)
        for value in ALL + (Scheduler, str(Last())):
            self.fails(InvalidOperation, Alternating, value, Last())
            self.fails(InvalidOperation, Alternating, Last(), value)
            self.fails(InvalidOperation, Alternating, value, value)

    def test_schedulers_stay_as_they_are(self):
        turns = Turns()
        both = Alternating(turns, turns)
        for _ in range(3):
            both((("a", 0), ("b", 0)))
        self.same(turns((("a", 0), ("b", 0))), ("a", 0))
        given = ["b"]
        named = Named(*given)
        given.append("a")
        self.same(str(named), "named b")
        self.assertTrue(spec.network(FLOW))


if __name__ == "__main__":
    unittest.main()
