"""[15.1] to [15.3] and the classes of halflink.desk.desk."""

import random
import unittest

from halflink.asked.bounds import queue_bounds
from halflink.asked.ends import end_paper
from halflink.asked.reach import reach_paper
from halflink.desk.desk import Desk, GuardedDesk
from halflink.errors import (
    Crossed, InvalidConfiguration, InvalidMachine, InvalidNetwork, InvalidNumber, InvalidOperation, InvalidRun,
    NothingToUndo, TooMany, UnknownName,
)
from halflink.machines.machines import machine_from, make_machine, renamed_machine
from halflink.networks.configurations import configuration_with, first_configuration
from halflink.networks.networks import make_network
from halflink.talks.talks import Talk
from halflink.views.oneway import crossing_run, view_numbers
from tests import many, plain, plaintalk, sizes, spec
from tests.branchcases import finite_network
from tests.case import KEPT, Case
from tests.plaindesk import PlainDesk, Refused
from tests.plaintalk import careful, changed, random_single
from tests.samples import (
    A, B, CALL, FLOW, LONELY, MEET, MID, NETWORKS, NONE, Q, TALKERS, WIDE, random_network, random_start,
)
from tests.walks import is_one_way
from tests.wrong import ALL, FEW, spoiled, unlike

STEPPER = make_machine(2, (0, ("step",), 1), (1, ("step",), 0), finals=(1,))
GO = (("a", 0),)
NAMES = [name for name, _ in WIDE[0]]
PLAIN_ANSWERS = (
    ("crossing_run", crossing_run), ("end_paper", end_paper), ("queue_bounds", queue_bounds),
    ("view_count", lambda network, start: views_of(network, start)),
)


def views_of(network, start):
    """The number of views, by the numbers that another function tells."""
    try:
        return len(list(view_numbers(network, start=start)))
    except Crossed:
        return 0


def outcome(function, *arguments, **keywords):
    """What a call returns, or its error and what that keeps."""
    try:
        return ("returned", function(*arguments, **keywords))
    except Exception as error:
        return (type(error).__name__, getattr(error, KEPT.get(type(error), "args"), None) if type(error) in KEPT else 0)


def wanted_of(function, *arguments):
    """The same for a plain desk."""
    try:
        return ("returned", function(*arguments))
    except Refused as error:
        name, *kept = error.args
        return (name, kept[0] if kept else 0)


class DeskCase(Case):
    def state(self, desk):
        """Everything that a desk tells about itself at once."""
        return repr((desk.network, desk.now, desk.crossed, desk.done, desk.log(), len(desk), str(desk)))

    def refuses(self, desk, error, function, *arguments, **keywords):
        """Check that a call raises an error, and that the desk stays as it was, also what can be undone and redone."""
        before = self.state(desk)
        self.fails(error, function, *arguments, **keywords)
        self.same(self.state(desk), before)

    def tells(self, desk, plain_desk):
        """Check what a desk tells about itself against a plain one."""
        network, now = plain_desk.now()
        self.same((desk.network, desk.now, desk.log(), desk.done),
                  (network, now, plain_desk.log(), plain_desk.done()))
        self.same(desk.crossed, tuple(spec.crossed(network, now)))
        self.same(len(desk), len(network[0]))
        letters = sum(map(len, now[1]))
        self.same(str(desk), f"desk with {len(network[0])} machines, {letters} letters")
        for (name, _), state in zip(network[0], now[0]):
            self.assertIs(name in desk, True)
            self.same(desk[name], state)
        for name in ("nobody", "q", "x"):
            if name not in dict(network[0]):
                self.assertIs(name in desk, False)
                self.fails((UnknownName, name), lambda name=name: desk[name])

    def answers(self, desk, configurations):
        """Check what a desk answers against the functions, with its network and its configuration."""
        network, now = desk.network, desk.now
        for name, function in PLAIN_ANSWERS:
            self.same(outcome(getattr(desk, name)), outcome(function, network, start=now))
        for value in configurations:
            self.same(outcome(desk.reach_paper, value), outcome(reach_paper, network, value, start=now))
        new = Desk(network, start=now)
        for name, _ in PLAIN_ANSWERS:
            self.same(outcome(getattr(desk, name)), outcome(getattr(new, name)))


def random_group(rng, network, now):
    """Operations that are often possible, the one behind the other."""
    group = []
    desk = PlainDesk(network, now)
    for _ in range(rng.choice((0, 1, 1, 2, 3))):
        net, conf = desk.now()
        operation = random_operation(rng, net, conf)
        group.append(operation)
        try:
            desk.perform((operation,))
        except Refused:
            if rng.random() < 0.7:
                group.pop()
    return tuple(group)


def random_operation(rng, net, conf):
    names = [name for name, _ in net[0]] + (["nobody"] if rng.random() < 0.1 else [])
    one, other = rng.choice(names), rng.choice(names)
    kind = rng.choice(("do", "do", "do", "add", "drop", "join", "part", "swap", "swap"))
    if kind == "do":
        moves = []
        for _ in range(rng.randint(0, 4)):
            found = spec.steps(net, conf)
            if found:
                moves.append(rng.choice(sorted(found)))
                conf = found[moves[-1]]
        return ("do", tuple(moves) + ((("nobody", 0),) if rng.random() < 0.05 else ()))
    if kind == "add":
        machine = rng.choice((NONE, STEPPER, STEPPER, random_single(rng.randrange(50))))
        return ("add", rng.choice(("n", "o", "b", one)), machine)
    if kind == "drop":
        return ("drop", one)
    if kind in ("join", "part"):
        return (kind, one, other)
    near = sorted({end for link in net[1] if one in link for end in link if end != one})
    deeds = [("step",)] + [(word, end, letter) for word in ("send", "take") for end in near for letter in "xy"]
    size = rng.randint(1, 3)
    rows = [(rng.randrange(size), rng.choice(deeds), rng.randrange(size)) for _ in range(rng.randint(0, 4))]
    state = rng.randrange(size) if rng.random() < 0.9 else size
    return ("swap", one, machine_from(size, tuple(rows), ()), state)


class Groups(DeskCase):
    def test_at_first(self):
        for network in NETWORKS:
            for start in (None, first_configuration(network), random_start(3, network)):
                desk = Desk(network, start=start)
                self.tells(desk, PlainDesk(network, start))
                self.same(desk.log(), ())

    def test_every_operation(self):
        desk = Desk(CALL)
        plainly = PlainDesk(CALL)
        for group in (
            (("do", GO),), (("do", ()),), (("add", "n", STEPPER),), (("join", "n", "b"), ("join", "a", "n"))[:1],
            (("swap", "n", make_machine(2, (0, ("send", "b", "z"), 0)), 1),), (("do", (("b", 0),)),),
            (("swap", "b", B, 0), ("swap", "n", NONE, 0), ("part", "b", "n"), ("drop", "n")),
        ):
            self.same(desk.perform(*group), plainly.perform(group))
            self.tells(desk, plainly)
        self.same(desk.done, 2)
        for number in (3, 0, 2):
            self.same(desk.undo(number), plainly.undo(number))
            self.tells(desk, plainly)
        for number in (1, 0, 4):
            self.same(desk.redo(number), plainly.redo(number))
            self.tells(desk, plainly)

    def test_configurations_of_other_networks(self):
        # States and queues keep to their machines and channels, wherever new names stand between them.
        start = configuration_with(CALL, {("a", "b"): ("go",)}, a=1)
        desk = Desk(CALL, start=start)
        desk.perform(("add", "aa", STEPPER), ("do", (("aa", 0),)), ("join", "b", "aa"))
        self.same(desk.network[1], (("a", "b"), ("aa", "b")))
        self.same(desk.now, ((1, 1, 0), (("go",), (), (), ())))
        desk.perform(("add", "z", NONE), ("join", "z", "a"))
        self.same(desk.now, ((1, 1, 0, 0), (("go",), (), (), (), (), ())))
        desk.perform(("part", "aa", "b"), ("drop", "aa"))
        self.same(desk.now, ((1, 0, 0), (("go",), (), (), ())))
        self.same([desk["a"], desk["b"], desk["z"], "aa" in desk], [1, 0, 0, False])

    def test_histories(self):
        seen = {}
        for seed in range(150):
            rng = random.Random(seed)
            network = rng.choice(NETWORKS) if seed % 2 else random_network(seed)
            start = random_start(seed, network) if seed % 3 == 0 else None
            desk, plainly = Desk(network, start=start), PlainDesk(network, start)
            for _ in range(12):
                kind = rng.choice(("perform", "perform", "perform_all", "undo", "redo"))
                if kind in ("undo", "redo"):
                    number = rng.choice((0, 1, 1, 2, 5))
                    wanted = wanted_of(getattr(plainly, kind), number)
                    found = outcome(getattr(desk, kind), number)
                else:
                    group = random_group(rng, *plainly.now())
                    wanted = wanted_of(plainly.perform, group)
                    found = outcome(desk.perform, *group) if kind == "perform" else outcome(desk.perform_all, group)
                self.same(found, wanted)
                seen[kind, wanted[0]] = seen.get((kind, wanted[0]), 0) + 1
                self.tells(desk, plainly)
            self.answers(desk, [desk.now, random_start(seed, desk.network, crossed=False)])
            new = Desk.replayed(network, desk.log(), start=start)
            self.same(self.state(new), self.state(desk))
            self.assertTrue(new == desk)
        for key in (("perform", "returned"), ("undo", "returned"), ("undo", "NothingToUndo"), ("redo", "returned"),
                    ("redo", "NothingToUndo"), ("perform", "InvalidOperation"), ("perform", "InvalidRun"),
                    ("perform", "UnknownName"), ("perform", "InvalidNumber")):
            self.assertGreater(seen[key], 5, key)

    def test_groups_without_operations(self):
        desk = Desk(CALL)
        desk.perform(("do", GO))
        desk.perform(("do", (("b", 0),)))
        desk.undo()
        self.same([desk.perform(), desk.perform_all(())], [1, 1])
        self.same(desk.log(), ((("do", GO),),))
        # What was undone can still be redone.
        self.same(desk.redo(), 2)
        self.same(Desk.replayed(CALL, ((), (("do", GO),), ())).log(), ((("do", GO),),))

    def test_a_new_group_ends_what_was_undone(self):
        desk = Desk(CALL)
        for moves in (GO, (("b", 0),), (("b", 1),)):
            desk.perform(("do", moves))
        self.same([desk.undo(2), desk.perform(("do", ()))], [1, 2])
        self.refuses(desk, (NothingToUndo, 1), desk.redo)
        self.same(desk.redo(0), 2)
        # A group that is refused ends nothing.
        desk.undo()
        self.refuses(desk, InvalidOperation, desk.perform, ("do", (("b", 0),)), ("drop", "a"))
        self.same(desk.redo(), 2)

    def test_all_or_none(self):
        desk = Desk(CALL)
        desk.perform(("do", GO))
        for wrong, error in (
            (("do", (("b", 0), ("b", 0))), (InvalidRun, 1)), (("drop", "a"), InvalidOperation),
            (("join", "a", "nobody"), (UnknownName, "nobody")), (("undo", 1), InvalidOperation), ("do", InvalidOperation),
            (None, InvalidOperation), (("swap", "a", A, 2), (InvalidNumber, 2)), (("add", "n", None), InvalidMachine),
        ):
            right = ("add", "zz", STEPPER)
            self.refuses(desk, error, desk.perform, wrong)
            self.refuses(desk, error, desk.perform, right, wrong, ("do", ()))
            self.same(("zz" in desk, desk.log()), (False, ((("do", GO),),)))

    def test_undo_and_redo_by_several(self):
        desk = Desk(FLOW)
        for number in range(6):
            self.same(desk.perform(("do", (("c", 0),) * number)), number + 1)
        self.same(desk.done, 15)
        self.same([desk.undo(4), desk.done, desk.redo(3), desk.done, desk.undo(5), desk.done], [2, 1, 5, 10, 0, 0])
        self.same(desk.redo(6), 6)
        self.refuses(desk, (NothingToUndo, 7), desk.undo, 7)
        self.refuses(desk, (NothingToUndo, 10 ** 39), desk.redo, 10 ** 39)
        self.same(str(desk), "desk with 2 machines, 15 letters")

    def test_equal(self):
        class Derived(Desk):
            pass

        one, other = Desk(CALL), Derived(CALL, start=first_configuration(CALL))
        self.assertTrue(one == other and other == one and one == GuardedDesk(CALL) and GuardedDesk(CALL) == other)
        one.perform(("do", ()))
        self.assertIs(one == other, False)
        self.assertIs(one != other, True)
        other.perform(("do", ()))
        self.assertIs(one == other, True)
        # The same network and configuration by other groups.
        one.perform(("add", "z", NONE), ("drop", "z"))
        self.assertIs(one == other, False)
        one.undo()
        # What was undone does not count.
        self.assertIs(one == other, True)
        self.assertIs(Desk(CALL) == Desk(FLOW), False)
        self.assertIs(Desk(CALL) == Desk(CALL, start=configuration_with(CALL, a=1)), False)
        for value in ALL:
            self.assertIs(one == value, False)
            self.assertIs(one != value, True)

    def test_nothing_gives_access(self):
        desk = Desk(CALL)
        for name in ("network", "now", "crossed", "done"):
            with self.assertRaises(AttributeError):
                setattr(desk, name, ())
        shown = desk.log()
        desk.perform(("do", GO))
        self.same(shown, ())
        self.assertIs(type(desk.log()), tuple)
        with self.assertRaises(TypeError):
            iter(desk)
        given = [("do", GO)]
        self.refuses(desk, InvalidOperation, desk.perform_all, given)

    def test_names_in(self):
        desk = Desk(CALL)
        for value in ALL + (("a",), ["a"], "c"):
            self.assertIs(value in desk, type(value) is str and value in ("a", "b"))
        for value in unlike(lambda part: part in ("a", "b")):
            self.fails((UnknownName, value), lambda value=value: desk[value])


class Refusals(DeskCase):
    def test_forms(self):
        desk = Desk(CALL)
        forms = (("do", GO), ("add", "n", NONE), ("drop", "n"), ("join", "n", "b"), ("part", "n", "b"),
                 ("swap", "b", B, 0))
        values = list(ALL) + [list(form) for form in forms] + [form[:-1] for form in forms]
        values += [form + (0,) for form in forms] + [(("do",) + form,) for form in forms] + [("Do", GO), (0, GO), ((), 1)]
        for value in values:
            self.refuses(desk, InvalidOperation, desk.perform, value)
            self.refuses(desk, InvalidOperation, desk.perform_all, (("do", ()), value))
            self.refuses(desk, InvalidOperation, Desk.replayed, CALL, ((value,),))
        for value in ALL:
            if type(value) is not tuple or value:
                self.refuses(desk, InvalidOperation, desk.perform_all, value)

    def test_moves(self):
        desk = Desk(CALL)
        for value in list(ALL) + list(spoiled((("a", 0), ("b", 0), ("b", 1)), FEW)):
            at = spec.fault(CALL, value, first_configuration(CALL))
            if at is not None:
                self.refuses(desk, (InvalidRun, at), desk.perform, ("do", value))
                self.refuses(desk, (InvalidRun, at), desk.perform, ("do", ()), ("do", value), None)

    def test_adding(self):
        desk = Desk(WIDE)
        for value in unlike(spec.machine):
            self.refuses(desk, InvalidMachine, desk.perform, ("add", None, value))
        small = Desk(CALL)
        for value in unlike(lambda part: spec.name(part) and part not in ("a", "b")):
            self.refuses(small, InvalidOperation, small.perform, ("add", value, NONE))
        # A machine with neighbours, and the seventh machine.
        self.refuses(small, InvalidOperation, small.perform, ("add", "n", B))
        self.refuses(desk, InvalidOperation, desk.perform, ("add", "n", NONE))
        five = make_network(**{name: NONE for name in "abcde"})
        desk = Desk(five)
        self.same(desk.perform(("add", "f", STEPPER)), 1)
        self.refuses(desk, InvalidOperation, desk.perform, ("add", "g", STEPPER))
        self.same(desk.perform(("drop", "a"), ("add", "g", STEPPER)), 2)

    def test_dropping(self):
        desk = Desk(WIDE)
        for name in ("west", "mid", "east", "left", "right"):
            self.refuses(desk, InvalidOperation, desk.perform, ("drop", name))
        for value in unlike(lambda part: part in NAMES):
            self.refuses(desk, (UnknownName, value), desk.perform, ("drop", value))
        self.same(desk.perform(("drop", "zero")), 1)
        lonely = Desk(LONELY)
        self.refuses(lonely, InvalidOperation, lonely.perform, ("drop", "a"))

    def test_joining(self):
        desk = Desk(make_network(("a", "b"), ("b", "c"), a=NONE, b=NONE, c=NONE, d=NONE))
        for one, other in (("a", "b"), ("b", "a"), ("a", "c"), ("c", "a"), ("a", "a"), ("d", "d")):
            self.refuses(desk, InvalidOperation, desk.perform, ("join", one, other))
        for value in unlike(lambda part: part in ("a", "b", "c", "d")):
            self.refuses(desk, (UnknownName, value), desk.perform, ("join", value, 0))
            self.refuses(desk, (UnknownName, value), desk.perform, ("join", "a", value))
        self.same(desk.perform(("join", "d", "a")), 1)
        self.same((desk.network[1], desk.now[1]), ((("a", "b"), ("a", "d"), ("b", "c")), ((),) * 6))

    def test_parting(self):
        desk = Desk(CALL)
        for one, other in (("a", "b"), ("b", "a"), ("a", "a")):
            self.refuses(desk, InvalidOperation, desk.perform, ("part", one, other))
        for value in unlike(lambda part: part in ("a", "b")):
            self.refuses(desk, (UnknownName, value), desk.perform, ("part", value, 0))
            self.refuses(desk, (UnknownName, value), desk.perform, ("part", "a", value))
        # A deed of one machine is enough, and so is a letter in one queue.
        one = Desk(make_network(("a", "b"), a=A, b=NONE))
        self.refuses(one, InvalidOperation, one.perform, ("part", "a", "b"))
        one.perform(("swap", "a", NONE, 0))
        self.same(one.perform(("part", "b", "a")), 2)
        for channel in (("a", "b"), ("b", "a")):
            network = make_network(("a", "b"), a=NONE, b=NONE)
            lying = Desk(network, start=configuration_with(network, {channel: ("x",)}))
            self.refuses(lying, InvalidOperation, lying.perform, ("part", "a", "b"))
        apart = Desk(make_network(a=NONE, b=NONE))
        self.refuses(apart, InvalidOperation, apart.perform, ("part", "a", "b"))

    def test_swapping(self):
        desk = Desk(CALL, start=configuration_with(CALL, {("a", "b"): ("go",)}, a=1))
        for value in unlike(lambda part: part in ("a", "b")):
            self.refuses(desk, (UnknownName, value), desk.perform, ("swap", value, None, None))
        for value in unlike(spec.machine):
            self.refuses(desk, InvalidMachine, desk.perform, ("swap", "a", value, None))
        for value in unlike(lambda part: spec.whole(part, 0, 1), ALL + (2, -1)):
            self.refuses(desk, (InvalidNumber, value), desk.perform, ("swap", "a", A, value))
        self.refuses(desk, (InvalidNumber, 4), desk.perform, ("swap", "a", MID, 4))
        self.refuses(desk, InvalidOperation, desk.perform, ("swap", "a", MID, 3))
        self.refuses(desk, InvalidOperation, desk.perform, ("swap", "a", renamed_machine(A, b="c"), 0))
        self.same(desk.perform(("swap", "a", NONE, 0)), 1)
        self.same(desk.now, ((0, 0), (("go",), ())))

    def test_numbers(self):
        desk = Desk(CALL)
        desk.perform(("do", GO))
        for function in (desk.undo, desk.redo):
            for value in unlike(lambda part: spec.whole(part, 0, 10 ** 40)):
                self.refuses(desk, (InvalidNumber, value), function, value)
        self.refuses(desk, (NothingToUndo, 2), desk.undo, 2)
        self.refuses(desk, (NothingToUndo, 1), desk.redo)
        self.same([desk.undo(0), desk.redo(0), desk.undo(many=1), desk.redo(many=1)], [1, 1, 0, 1])

    def test_making_and_replaying(self):
        for make in (Desk, GuardedDesk):
            for value in unlike(spec.network):
                self.fails(InvalidNetwork, make, value, start=0)
                self.fails(InvalidNetwork, make.replayed, value, None, start=0)
            for value in unlike(lambda part: part is None or spec.configuration(CALL, part)):
                self.fails(InvalidConfiguration, make, CALL, start=value)
                self.fails(InvalidConfiguration, make.replayed, CALL, None, start=value)
            for value in unlike(lambda part: type(part) is tuple and all(type(group) is tuple for group in part)):
                self.fails(InvalidOperation, make.replayed, CALL, value)
            self.fails(InvalidOperation, make.replayed, CALL, ((("do", (("zz", 0),)),), []))
            self.fails((InvalidRun, 1), make.replayed, CALL, ((("do", GO),), (("do", (("b", 0), ("b", 0))),), (0,)))
            self.assertIs(type(make.replayed(CALL, ())), make)
        start = configuration_with(CALL, {("a", "b"): ("go",)}, a=1)
        self.same(Desk.replayed(CALL, ((("do", (("b", 0),)),),), start=start).now, ((1, 1), ((), ())))


class Questions(DeskCase):
    def test_edges_of_the_answers(self):
        functions = ("crossing_run", "end_paper", "queue_bounds", "view_count")
        long = Desk(FLOW, start=configuration_with(FLOW, {("c", "d"): ("x",) * 20}))
        self.same(long.queue_bounds(), (None, 0))
        long.perform(("do", (("c", 0),)))
        for name in functions:
            self.refuses(long, (TooMany, 20), getattr(long, name))
        self.refuses(long, (TooMany, 20), long.reach_paper, long.now)
        crossed = Desk(TALKERS, start=configuration_with(TALKERS, {("u", "v"): ("x",), ("v", "u"): ("y",)}))
        self.same([crossed.crossing_run(), crossed.view_count(), crossed.crossed], [(), 0, (("u", "v"),)])
        for name in ("end_paper", "queue_bounds"):
            self.refuses(crossed, (Crossed, ()), getattr(crossed, name))
        self.refuses(crossed, (Crossed, ()), crossed.reach_paper, crossed.now)
        both = configuration_with(TALKERS, {("u", "v"): ("x",) * 21, ("v", "u"): ("y",)})
        self.refuses(Desk(TALKERS, start=both), (TooMany, 20), Desk(TALKERS, start=both).view_count)
        large = Desk(sizes.VIEWS_2001)
        for name in functions:
            self.refuses(large, (TooMany, 2000), getattr(large, name))
        self.same([Desk(sizes.VIEWS_2000).view_count(), Desk(CALL).view_count(), Desk(MEET).view_count()], [2000, 4, 4])
        meet = Desk(MEET)
        self.same(len(meet.crossing_run()), 2)
        self.refuses(meet, (Crossed, meet.crossing_run()), meet.end_paper)
        for value in unlike(lambda part: spec.configuration(CALL, part)):
            self.fails(InvalidConfiguration, Desk(CALL).reach_paper, value)

    def test_crossed_with_many_views(self):
        network = sizes.MEET_2001
        start = configuration_with(network, {("p", "q"): ("x",), ("q", "p"): ("x",)})
        self.same([Desk(network, start=start).view_count(), Desk(network, start=start).crossing_run()], [0, ()])


def careful_from(machine, state, longest):
    """The careful words that a machine does from a state."""
    turned = {0: state, state: 0}
    rows = tuple((turned.get(one, one), deed, turned.get(other, other)) for one, deed, other in machine[2])
    return careful(plaintalk.words(machine_from(machine[0], rows, ()), longest))


def unseen(old, old_state, new, new_state):
    """Whether a swap is unseen, by the words of the document, for machines with few states."""
    if len(spec.neighbours(old)) > 1 or len(spec.neighbours(new)) > 1:
        return False
    words = careful_from(old, old_state, 6)
    return words == careful_from(new, new_state, 6) and (words == [()] or spec.neighbours(old) == spec.neighbours(new))


class Unseen(DeskCase):
    def test_document(self):
        desk = GuardedDesk(CALL)
        self.same([desk.perform(("do", (("a", 0),))), desk.queue_bounds(), desk.is_unseen("b", B, 0),
                   desk.is_unseen("b", B, 1), desk["a"], str(desk)],
                  [1, (1, 1), True, False, 1, "desk with 2 machines, 1 letters"])
        self.refuses(desk, (InvalidRun, 1), desk.perform, ("add", "q", NONE), ("join", "q", "b"),
                     ("do", (("b", 0), ("b", 0))))

    def test_against_words(self):
        seen = {True: 0, False: 0}
        for seed in range(250):
            rng = random.Random(seed)
            old = random_single(seed, 3)
            new = changed(seed, old) if seed % 3 else random_single(seed + 5000, 3)
            name = (spec.neighbours(old) or ["p"])[0]
            if name == "old":
                continue
            network = make_network((name, "old"), old=old, **{name: NONE})
            for _ in range(3):
                state, new_state = rng.randrange(old[0]), rng.randrange(new[0])
                desk = Desk(network, start=configuration_with(network, old=state))
                wanted = unseen(old, state, new, new_state)
                seen[wanted] += 1
                self.gives(wanted, desk.is_unseen, "old", new, new_state)
                self.gives(True, desk.is_unseen, "old", old, state)
        self.assertGreater(min(seen.values()), 150)

    def test_nothing_is_seen(self):
        # [15.3], against the configurations of small networks.
        counts = {}
        for seed in range(300):
            rng = random.Random(seed)
            network = finite_network(seed)
            single = [name for name, machine in network[0] if len(spec.neighbours(machine)) == 1]
            if not single:
                continue
            name = rng.choice(single)
            old = dict(network[0])[name]
            start = random_start(seed, network, crossed=False)
            at = [own for own, _ in network[0]].index(name)
            least = Talk.careful_of(begun(old, start[0][at]))
            if len(least) > 10:
                continue
            new = changed(seed, least.machine(spec.neighbours(old)[0]))
            desk = Desk(network, start=start)
            if not desk.is_unseen(name, new, 0):
                continue
            desk.perform(("swap", name, new, 0))
            ways = [is_one_way(network, start), is_one_way(desk.network, desk.now)]
            self.assertIs(ways[0], ways[1])
            found = [plain.all_reached(net, conf, 2000) for net, conf in ((network, start), (desk.network, desk.now))]
            if ways[0] and None not in found:
                rest = [{(states[:at] + states[at + 1:], queues) for states, queues in some} for some in found]
                self.assertEqual(rest[0], rest[1])
            counts[ways[0]] = counts.get(ways[0], 0) + 1
        self.assertGreater(min(counts.values()), 20)
        self.assertEqual(len(counts), 2)

    def test_neighbours(self):
        network = make_network(("a", "b"), ("b", "c"), a=A, b=NONE, c=NONE)
        other = renamed_machine(A, b="c")
        desk = Desk(network)
        self.gives(False, desk.is_unseen, "a", other, 0)
        self.gives(True, desk.is_unseen, "a", A, 0)
        # Without words, the neighbours do not matter: nothing of it is reached by careful words.
        self.gives(True, desk.is_unseen, "b", STEPPER, 1)
        late = make_machine(2, (1, ("send", "zz", "x"), 0))
        self.gives(True, desk.is_unseen, "b", late, 0)
        self.gives(False, desk.is_unseen, "b", late, 1)

    def test_machines_with_two_neighbours(self):
        desk = Desk(WIDE)
        self.gives(False, desk.is_unseen, "mid", MID, 0)
        self.gives(False, desk.is_unseen, "mid", NONE, 0)
        self.gives(False, desk.is_unseen, "zero", MID, 2)
        # It is not unseen, however many sets of states the other machine has.
        self.gives(False, desk.is_unseen, "mid", many.machine_2001(), 0)

    def test_errors(self):
        desk = Desk(WIDE)
        for value in unlike(lambda part: part in NAMES):
            self.refuses(desk, (UnknownName, value), desk.is_unseen, value, None, None)
        for value in unlike(spec.machine):
            self.refuses(desk, InvalidMachine, desk.is_unseen, "mid", value, None)
        for value in unlike(lambda part: spec.whole(part, 0, 1), ALL + (2, -1)):
            self.refuses(desk, (InvalidNumber, value), desk.is_unseen, "mid", Q, value)
        self.refuses(desk, (TooMany, 2000), desk.is_unseen, "zero", many.machine_2001(), 0)
        self.refuses(desk, (TooMany, 200), desk.is_unseen, "zero", many.machine_rings(2), 0)
        large = Desk(make_network(("m", "p"), m=many.machine_2001(), p=NONE))
        self.refuses(large, (TooMany, 2000), large.is_unseen, "m", many.machine_rings(2), 0)
        # From another state the machine has fewer sets.
        late = Desk(large.network, start=configuration_with(large.network, m=1))
        self.gives(False, late.is_unseen, "m", NONE, 0)


def begun(machine, state):
    turned = {0: state, state: 0}
    rows = tuple((turned.get(one, one), deed, turned.get(other, other)) for one, deed, other in machine[2])
    return machine_from(machine[0], rows, ())


class Guarded(DeskCase):
    def test_making(self):
        for network in NETWORKS:
            for start in (None, random_start(5, network), random_start(6, network, crossed=False)):
                run = crossing_run(network, start=start)
                if run is None:
                    self.tells(GuardedDesk(network, start=start), PlainDesk(network, start))
                else:
                    self.fails((Crossed, run), GuardedDesk, network, start=start)
                    self.fails((Crossed, run), GuardedDesk.replayed, network, None, start=start)
        start = configuration_with(FLOW, {("c", "d"): ("x",) * 21})
        self.fails((TooMany, 20), GuardedDesk, FLOW, start=start)
        self.fails((TooMany, 2000), GuardedDesk, sizes.VIEWS_2001)
        self.fails((TooMany, 2000), GuardedDesk, sizes.BEHIND)
        self.fails((Crossed, crossing_run(MEET)), GuardedDesk, MEET)
        self.tells(GuardedDesk(sizes.VIEWS_2000), PlainDesk(sizes.VIEWS_2000))
        crossed = configuration_with(sizes.MEET_2001, {("p", "q"): ("x",), ("q", "p"): ("x",)})
        self.fails((Crossed, ()), GuardedDesk, sizes.MEET_2001, start=crossed)

    def test_beside_plain_desks(self):
        seen = {}
        for seed in range(200):
            rng = random.Random(seed)
            network = rng.choice(NETWORKS) if seed % 2 else random_network(seed)
            if not is_one_way(network, None):
                continue
            desk, plainly = GuardedDesk(network), PlainDesk(network)
            for _ in range(12):
                kind = rng.choice(("perform", "perform", "perform_all", "undo", "redo"))
                if kind in ("undo", "redo"):
                    number = rng.choice((0, 1, 2))
                    wanted = wanted_of(getattr(plainly, kind), number)
                    self.same(outcome(getattr(desk, kind), number), wanted)
                    self.tells(desk, plainly)
                    continue
                group = random_group(rng, *plainly.now())
                copy = PlainDesk(network)
                copy.stages, copy.undone = list(plainly.stages), list(plainly.undone)
                wanted = wanted_of(copy.perform, group)
                if wanted[0] == "returned":
                    guard = outcome(crossing_run, copy.now()[0], start=copy.now()[1])
                    if guard[0] != "returned":
                        wanted = guard
                    elif guard[1] is not None:
                        wanted = ("Crossed", guard[1])
                found = outcome(desk.perform, *group) if kind == "perform" else outcome(desk.perform_all, group)
                self.same(found, wanted)
                seen[wanted[0]] = seen.get(wanted[0], 0) + 1
                if wanted[0] == "returned":
                    plainly.stages, plainly.undone = copy.stages, copy.undone
                self.tells(desk, plainly)
                self.assertTrue(is_one_way(desk.network, desk.now))
            new = GuardedDesk.replayed(network, desk.log())
            self.assertTrue(new == desk and type(new) is GuardedDesk)
        self.assertGreater(seen["returned"], 300)
        self.assertGreater(seen["Crossed"], 10)

    def test_a_group_may_pass_by_a_crossing(self):
        # Only what the whole group leads to counts.
        rash = make_machine(2, (0, ("send", "a", "x"), 1))
        desk = GuardedDesk(CALL)
        self.refuses(desk, (Crossed, crossing_run(make_network(("a", "b"), a=A, b=rash))), desk.perform,
                     ("swap", "b", rash, 0))
        self.same(desk.perform(("swap", "b", rash, 0), ("swap", "a", NONE, 0)), 1)
        self.same(desk.perform(("swap", "b", B, 0), ("swap", "a", A, 0)), 2)
        # Errors of the operations come first.
        self.refuses(desk, InvalidOperation, desk.perform, ("swap", "b", rash, 0), ("drop", "a"))

    def test_limits(self):
        desk = GuardedDesk(FLOW, start=configuration_with(FLOW, {("c", "d"): ("x",) * 19}))
        self.same(desk.perform(("do", (("c", 0),))), 1)
        self.refuses(desk, (TooMany, 20), desk.perform, ("do", (("c", 0),)))
        self.same(desk.perform(("do", (("d", 1), ("c", 0)))), 2)
        self.same([desk.undo(2), desk.redo(2), len(desk.now[1][0])], [0, 2, 20])
        wide = GuardedDesk(make_network(a=sizes.cycle(3), b=sizes.cycle(23)))
        self.refuses(wide, (TooMany, 2000), wide.perform, ("add", "c", sizes.cycle(29)))
        self.same(wide.perform(("add", "c", sizes.cycle(28))), 1)
        self.fails((TooMany, 2000), GuardedDesk.replayed, wide.network, ((("swap", "c", sizes.cycle(30), 0),),))


if __name__ == "__main__":
    unittest.main()
