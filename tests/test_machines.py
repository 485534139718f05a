"""[0.1], [0.2], [1.1], [1.2] and the functions of halflink.machines.machines."""

import random
import unittest

from halflink.errors import InvalidMachine, InvalidNumber, InvalidOperation, UnknownName
from halflink.machines import machines
from halflink.machines.machines import (
    is_machine, is_single, letters_at, machine_from, machine_renamed_by, make_machine, neighbours_of, reached_states,
    renamed_machine, transitions_at, trimmed,
)
from tests import spec
from tests.case import Case
from tests.samples import A, ALONE, B, D, EAST, MID, NONE, Q, WEST
from tests.wrong import ALL, FEW, spoiled, unlike

STEP = (0, ("step",), 0)
# Ninety transitions between few states, and one more.
MANY = tuple(sorted((state, ("send", "b", letter * times), 0) for state in range(5) for letter in "abcdef"
                    for times in (1, 4, 8)))
MORE = MANY + ((4, ("step",), 0),)
LONG = make_machine(30, *[(state, ("step",), state + 1) for state in range(29)], finals=(29, 0))


class IsMachine(Case):
    def test_document(self):
        self.same([is_machine(A), is_machine((1, (), ())), is_machine((1, (0, 0), ())), is_machine((0, (), ()))],
                  [True, True, False, False])

    def test_machines(self):
        for value in (A, B, D, Q, WEST, MID, EAST, ALONE, NONE, LONG, (1, (0,), ()), (2, (0, 1), (STEP,))):
            self.gives(True, is_machine, value)

    def test_sizes(self):
        for size in (1, 2, 29, 30):
            self.gives(True, is_machine, (size, (), ()))
        for size in (0, -1, 31, 32, 10 ** 39, True, False, None, "1", (1,), [1], "a"):
            self.gives(False, is_machine, (size, (), ()))

    def test_finals(self):
        self.gives(True, is_machine, (30, tuple(range(30)), ()))
        for finals in ((1, 0), (0, 0), (2,), (-1,), (True,), (False,), (False, 1), (0, True), [0], [], None, {}, 0,
                       ("0",), ((),), (None,), ((0,),), "", {0: True}):
            self.gives(False, is_machine, (2, finals, ()))

    def test_ninety_transitions(self):
        self.assertEqual(len(MANY), 90)
        self.gives(True, is_machine, (5, (), MANY))
        self.gives(False, is_machine, (5, (), MORE))

    def test_transitions_ascend(self):
        rows = ((0, ("send", "b", "x"), 0), (0, ("send", "b", "x"), 1), (0, ("send", "b", "y"), 0),
                (0, ("send", "c", "a"), 0), (0, ("step",), 0), (0, ("take", "b", "x"), 0), (1, ("send", "b", "x"), 0))
        self.gives(True, is_machine, (2, (), rows))
        for at in range(len(rows) - 1):
            turned = rows[:at] + (rows[at + 1], rows[at]) + rows[at + 2:]
            self.gives(False, is_machine, (2, (), turned))
            self.gives(False, is_machine, (2, (), rows[:at] + (rows[at],) + rows[at:]))

    def test_transitions(self):
        wrong = [
            (2, ("step",), 0), (0, ("step",), 2), (-1, ("step",), 0), (0, ("step",), -1), (False, ("step",), 0),
            (0, ("step",), True), (0, ("step",)), (0, ("step",), 0, 0), (0, "step", 0), (0, ["step"], 0),
            [0, ("step",), 0], (0, (), 0), (0, None, 0), (0, ("steps",), 0), (0, ("step", "b"), 0),
            (0, ("step", "b", "x"), 0), (0, ("send",), 0), (0, ("send", "b"), 0), (0, ("send", "b", "x", "y"), 0),
            (0, ("put", "b", "x"), 0), (0, ("Send", "b", "x"), 0), (0, (True, "b", "x"), 0), (0, ([], "b", "x"), 0),
            ("0", ("step",), 0), (0, ("step",), None), ((0,), ("step",), 0), (0, {}, 0), (0, (("step",),), 0),
        ]
        for row in wrong:
            self.gives(False, is_machine, (2, (), (row,)))
        for rows in (None, [], [STEP], {}, "", 0, STEP, (STEP, None), {STEP: True}):
            self.gives(False, is_machine, (2, (), rows))

    def test_names_and_letters(self):
        for word in ("send", "take"):
            for good in ("a", "z", "abcdefgh", "zzzzzzzz", "network", "step", "none"):
                self.gives(True, is_machine, (1, (), ((0, (word, good, "x"), 0),)))
                self.gives(True, is_machine, (1, (), ((0, (word, "b", good), 0),)))
            for bad in ("", "abcdefghi", "A", "aB", "a1", "1", "a_b", "_", "a b", " ", "a ", "a\n", "\n", "a-b", "a.",
                        None, True, 0, 1, ("a",), ["a"], {}, {"a": 1}, (), [], "`", "{"):
                self.gives(False, is_machine, (1, (), ((0, (word, bad, "x"), 0),)))
                self.gives(False, is_machine, (1, (), ((0, (word, "b", bad), 0),)))

    def test_several_transitions_with_one_deed(self):
        self.gives(True, is_machine, (2, (), ((0, ("step",), 0), (0, ("step",), 1), (1, ("step",), 0))))

    def test_every_value(self):
        for value in ALL:
            self.gives(spec.machine(value), is_machine, value)

    def test_every_spoiled_part(self):
        right = 0
        for value in (A, D, Q, NONE, (3, (0, 2), (STEP, (2, ("take", "b", "y"), 1)))):
            for part in spoiled(value):
                self.gives(spec.machine(part), is_machine, part)
                right += spec.machine(part)
        self.assertGreater(right, 30)


class MakeMachine(Case):
    def test_constants(self):
        self.same([machines.MAX_STATES, machines.MAX_TRANSITIONS], [30, 90])

    def test_document(self):
        rows = ((0, ("step",), 1), (0, ("take", "c", "x"), 0), (0, ("step",), 1))
        self.gives(D, machine_from, 2, rows, (1,))
        self.same(D[2], ((0, ("step",), 1), (0, ("take", "c", "x"), 0)))

    def test_plain(self):
        self.gives((1, (), ()), make_machine, 1)
        self.gives((1, (), ()), machine_from, 1, (), ())
        self.gives((3, (2,), (STEP,)), make_machine, 3, STEP, finals=(2,))
        self.gives((3, (), (STEP,)), make_machine, 3, STEP)
        self.gives(A, make_machine, 2, *A[2], finals=(0,))

    def test_any_order_and_repeated(self):
        rng = random.Random(1)
        for _ in range(20):
            rows = rng.sample(MANY, 12)
            finals = rng.sample(range(5), 3)
            wanted = (5, tuple(sorted(finals)), tuple(sorted(rows)))
            rows = tuple(rows + rng.sample(rows, 5))
            finals = tuple(finals + rng.sample(finals, 2))
            self.gives(wanted, make_machine, 5, *rows, finals=finals)
            self.gives(wanted, machine_from, 5, rows, finals)

    def test_finals_in_any_order(self):
        for finals in ((29, 8, 0, 16, 24), (8, 0), (16, 8, 0), (24, 16, 8), (29, 21, 13, 5)):
            self.gives((30, tuple(sorted(finals)), ()), make_machine, 30, finals=finals)
            self.gives((30, tuple(sorted(finals)), ()), machine_from, 30, (), finals * 2)

    def test_each_counts_once(self):
        self.gives((5, (), MANY), make_machine, 5, *MANY[::-1], *MANY)
        self.gives((5, (0, 4), MANY), machine_from, 5, MANY * 3, (4, 0) * 60)

    def test_too_many_transitions(self):
        self.fails(InvalidMachine, make_machine, 5, *MORE)
        self.fails(InvalidMachine, machine_from, 5, MORE, ())
        self.fails(InvalidMachine, machine_from, 5, MORE + MANY, (1,))

    def test_thirty_states(self):
        row = (29, ("step",), 0)
        self.gives((30, (29,), (row,)), make_machine, 30, row, finals=(29,))
        self.fails((InvalidNumber, 31), make_machine, 31, row, finals=(29,))
        self.fails((InvalidNumber, 0), make_machine, 0)

    def test_wrong_sizes_come_first(self):
        for size in unlike(lambda value: spec.whole(value, 1, 30)):
            self.fails((InvalidNumber, size), make_machine, size)
            self.fails((InvalidNumber, size), make_machine, size, None, finals=None)
            self.fails((InvalidNumber, size), machine_from, size, None, None)
            self.fails((InvalidNumber, size), machine_from, size, (), ())

    def test_wrong_transitions(self):
        for row in spoiled(MID[2][0]):
            if not spec.transition(row, 4):
                self.fails(InvalidMachine, make_machine, 4, row)
                self.fails(InvalidMachine, make_machine, 4, *MID[2], row, finals=MID[1])
                self.fails(InvalidMachine, machine_from, 4, (row,), ())
        for rows in unlike(lambda value: value == ()):
            if not isinstance(rows, tuple):
                self.fails(InvalidMachine, machine_from, 4, rows, ())
        self.fails(InvalidMachine, machine_from, 4, list(MID[2]), ())
        self.fails(InvalidMachine, machine_from, 4, {row: True for row in MID[2]}, ())
        # Equal to a transition, but with booleans for integers.
        self.fails(InvalidMachine, make_machine, 2, (0, ("step",), 1), (False, ("step",), True))

    def test_wrong_finals(self):
        for finals in ALL:
            if not (isinstance(finals, tuple) and all(spec.whole(state, 0, 1) for state in finals)):
                self.fails(InvalidMachine, make_machine, 2, finals=finals)
                self.fails(InvalidMachine, machine_from, 2, (), finals)
        for state in unlike(lambda value: spec.whole(value, 0, 1)):
            self.fails(InvalidMachine, make_machine, 2, finals=(0, state))
        for finals in ((0, False), (1, True), [0], [0, 1], (0, 2), (-1,)):
            self.fails(InvalidMachine, machine_from, 2, (), finals)


class Neighbours(Case):
    def test_document(self):
        self.same([neighbours_of(D), neighbours_of((1, (), ())), is_single(D)], [("c",), (), True])

    def test_neighbours(self):
        self.gives(("east", "west"), neighbours_of, MID)
        self.gives(("b",), neighbours_of, A)
        self.gives((), neighbours_of, ALONE)
        many = make_machine(1, *[(0, (word, other, "x"), 0) for word in ("send", "take") for other in "edcba"])
        self.gives(("a", "b", "c", "d", "e"), neighbours_of, many)

    def test_a_neighbour_in_states_that_are_not_reached(self):
        self.gives(("b",), neighbours_of, (2, (), ((1, ("send", "b", "x"), 1),)))

    def test_single(self):
        for value, wanted in ((A, True), (NONE, True), (ALONE, True), (MID, False), (LONG, True)):
            self.gives(wanted, is_single, value)
        self.gives(False, is_single, make_machine(1, (0, ("send", "a", "x"), 0), (0, ("take", "b", "x"), 0)))
        self.gives(True, is_single, make_machine(1, (0, ("send", "a", "x"), 0), (0, ("take", "a", "x"), 0)))

    def test_single_of_every_value(self):
        for value in list(ALL) + list(spoiled(D)) + list(spoiled((2, (), MID[2][:1] + D[2][1:]))):
            wanted = spec.machine(value) and len(spec.neighbours(value)) < 2
            self.gives(wanted, is_single, value)


class TransitionsAt(Case):
    def test_document(self):
        self.same([transitions_at(Q, 0), transitions_at(Q, 1), letters_at(Q, 0, "send", "p"),
                   letters_at(Q, 1, "take", "p")], [(0, 1), (), ("y",), ()])

    def test_transitions(self):
        self.gives((0,), transitions_at, MID, 0)
        self.gives((2, 3), transitions_at, MID, 2)
        self.gives((4,), transitions_at, MID, 3)
        self.gives((28,), transitions_at, LONG, 28)
        self.gives((), transitions_at, LONG, 29)
        for state in range(5):
            self.gives(tuple(range(18 * state, 18 * state + 18)), transitions_at, (5, (), MANY), state)

    def test_letters(self):
        self.gives(("no", "ok"), letters_at, MID, 2, "take", "east")
        self.gives((), letters_at, MID, 2, "send", "east")
        self.gives((), letters_at, MID, 2, "take", "west")
        self.gives(("go",), letters_at, MID, 1, "send", "east")
        self.gives((), letters_at, MID, 1, "send", "west")

    def test_a_letter_counts_once(self):
        table = make_machine(2, (0, ("send", "b", "z"), 0), (0, ("send", "b", "z"), 1), (0, ("send", "b", "a"), 0),
                             (0, ("take", "b", "q"), 0), (0, ("send", "c", "r"), 0), (1, ("send", "b", "s"), 0))
        self.gives(("a", "z"), letters_at, table, 0, "send", "b")
        self.gives(("q",), letters_at, table, 0, "take", "b")
        self.gives(("r",), letters_at, table, 0, "send", "c")
        self.gives(("s",), letters_at, table, 1, "send", "b")
        self.gives((), letters_at, table, 1, "take", "c")

    def test_wrong_states(self):
        for state in unlike(lambda value: spec.whole(value, 0, 3)):
            self.fails((InvalidNumber, state), transitions_at, MID, state)
            self.fails((InvalidNumber, state), letters_at, MID, state, "send", "east")
            self.fails((InvalidNumber, state), letters_at, MID, state, "sent", "nobody")
        self.fails((InvalidNumber, 4), transitions_at, MID, 4)

    def test_wrong_words(self):
        for word in unlike(lambda value: value in ("send", "take")):
            self.fails(InvalidOperation, letters_at, MID, 0, word, "east")
            self.fails(InvalidOperation, letters_at, MID, 0, word, None)

    def test_wrong_neighbours(self):
        for other in list(ALL) + ["mid", "eas", "EAST", ["east"], ("east",)]:
            self.fails((UnknownName, other), letters_at, MID, 0, "send", other)
            self.fails((UnknownName, other), letters_at, NONE, 0, "take", other)

    def test_wrong_machines_come_first(self):
        for machine in unlike(spec.machine):
            self.fails(InvalidMachine, neighbours_of, machine)
            self.fails(InvalidMachine, transitions_at, machine, None)
            self.fails(InvalidMachine, letters_at, machine, None, None, None)
            self.fails(InvalidMachine, reached_states, machine)
            self.fails(InvalidMachine, trimmed, machine)
            self.fails(InvalidMachine, renamed_machine, machine, a=None)
            self.fails(InvalidMachine, machine_renamed_by, machine, None)


class Reached(Case):
    def test_document(self):
        table = (3, (2,), ((0, ("step",), 2),))
        self.same([reached_states(table), trimmed(table)], [(0, 2), (2, (1,), ((0, ("step",), 1),))])

    def test_reached(self):
        self.gives((0,), reached_states, NONE)
        self.gives((0,), reached_states, (30, (), ()))
        self.gives((0, 1, 2, 3), reached_states, MID)
        self.gives(tuple(range(30)), reached_states, LONG)
        back = make_machine(30, *[(state + 1, ("step",), state) for state in range(29)], (0, ("step",), 4))
        self.gives((0, 1, 2, 3, 4), reached_states, back)

    def test_whatever_the_deeds_are(self):
        table = make_machine(6, (0, ("take", "b", "x"), 2), (2, ("send", "c", "y"), 4), (4, ("step",), 0),
                             (1, ("step",), 0), (5, ("step",), 3), (3, ("step",), 5))
        self.gives((0, 2, 4), reached_states, table)

    def test_trimmed(self):
        table = make_machine(6, (0, ("take", "b", "x"), 5), (5, ("send", "c", "y"), 2), (2, ("step",), 0),
                             (1, ("step",), 0), (4, ("step",), 3), (3, ("step",), 4), finals=(0, 1, 2, 4, 5))
        wanted = (3, (0, 1, 2), ((0, ("take", "b", "x"), 2), (1, ("step",), 0), (2, ("send", "c", "y"), 1)))
        self.gives(wanted, trimmed, table)
        for same in (A, B, D, Q, MID, LONG, NONE):
            self.gives(same, trimmed, same)
        self.gives((1, (), ()), trimmed, (30, (29,), ()))
        self.gives((1, (0,), (STEP,)), trimmed, (2, (0, 1), (STEP, (1, ("step",), 0))))

    def test_random(self):
        rng = random.Random(5)
        for _ in range(60):
            size = rng.randint(1, 9)
            rows = [(rng.randrange(size), ("send", "b", rng.choice("xy")), rng.randrange(size))
                    for _ in range(rng.randint(0, size + 1))]
            table = make_machine(size, *rows, finals=tuple(rng.sample(range(size), rng.randint(0, size))))
            found = {0}
            for _ in range(size):
                found |= {row[2] for row in table[2] if row[0] in found}
            order = sorted(found)
            self.gives(tuple(order), reached_states, table)
            wanted = make_machine(
                len(order),
                *[(order.index(row[0]), row[1], order.index(row[2])) for row in table[2] if row[0] in found],
                finals=tuple(order.index(state) for state in table[1] if state in found),
            )
            self.gives(wanted, trimmed, table)


class Renamed(Case):
    def test_document(self):
        self.same(renamed_machine(D, c="e", x="y")[2], ((0, ("step",), 1), (0, ("take", "e", "x"), 0)))

    def test_one_name(self):
        self.gives((2, (1,), ((0, ("step",), 1), (0, ("take", "e", "x"), 0))), renamed_machine, D, c="e")
        self.gives((2, (1,), ((0, ("step",), 1), (0, ("take", "e", "x"), 0))), machine_renamed_by, D, {"c": "e"})

    def test_without_effect(self):
        for names in ({}, {"q": "r"}, {"c": "c"}, {"x": "c"}, {"q": "c", "r": "c"}):
            self.gives(D, machine_renamed_by, D, names)
            self.gives(D, renamed_machine, D, **names)

    def test_letters_stay(self):
        table = make_machine(1, (0, ("send", "x", "x"), 0), (0, ("take", "x", "y"), 0))
        self.gives((1, (), ((0, ("send", "y", "x"), 0), (0, ("take", "y", "y"), 0))), renamed_machine, table, x="y")

    def test_the_result_ascends(self):
        table = make_machine(1, (0, ("send", "b", "x"), 0), (0, ("send", "c", "x"), 0), finals=(0,))
        self.gives((1, (0,), ((0, ("send", "a", "x"), 0), (0, ("send", "b", "x"), 0))), renamed_machine, table, c="a")

    def test_exchanged_names(self):
        wanted = make_machine(
            4, (0, ("take", "east", "go"), 1), (1, ("send", "west", "go"), 2), (2, ("take", "west", "no"), 3),
            (2, ("take", "west", "ok"), 3), (3, ("send", "east", "ok"), 0), finals=(0, 3),
        )
        self.gives(wanted, renamed_machine, MID, east="west", west="east")
        self.gives(wanted, machine_renamed_by, MID, {"west": "east", "east": "west"})
        self.gives(MID, machine_renamed_by, wanted, {"west": "east", "east": "west"})

    def test_names_in_a_ring(self):
        ends = make_machine(1, (0, ("send", "a", "x"), 0), (0, ("send", "b", "y"), 0), (0, ("send", "c", "z"), 0))
        wanted = (1, (), ((0, ("send", "a", "z"), 0), (0, ("send", "b", "x"), 0), (0, ("send", "c", "y"), 0)))
        self.gives(wanted, renamed_machine, ends, a="b", b="c", c="a")

    def test_moved_on(self):
        wanted = make_machine(1, (0, ("send", "b", "x"), 0), (0, ("take", "c", "y"), 0))
        table = make_machine(1, (0, ("send", "a", "x"), 0), (0, ("take", "b", "y"), 0))
        self.gives(wanted, renamed_machine, table, a="b", b="c")

    def test_two_neighbours_become_one(self):
        self.fails(InvalidOperation, renamed_machine, MID, east="west")
        self.fails(InvalidOperation, renamed_machine, MID, west="east")
        self.fails(InvalidOperation, renamed_machine, MID, west="q", east="q")
        self.fails(InvalidOperation, machine_renamed_by, MID, {"east": "west"})
        self.gives(NONE, renamed_machine, NONE, a="q", b="q")

    def test_names_equal_to_a_parameter(self):
        table = make_machine(1, (0, ("send", "machine", "x"), 0), (0, ("send", "names", "x"), 0))
        wanted = make_machine(1, (0, ("send", "names", "x"), 0), (0, ("send", "machine", "x"), 0))
        self.gives(wanted, machine_renamed_by, table, {"machine": "names", "names": "machine"})
        self.gives((1, (), ((0, ("send", "a", "x"), 0), (0, ("send", "names", "x"), 0))),
                   machine_renamed_by, table, {"machine": "a"})
        self.gives((1, (), ((0, ("send", "a", "x"), 0), (0, ("send", "machine", "x"), 0))),
                   renamed_machine, table, names="a")

    def test_long_names(self):
        self.gives(True, is_machine, renamed_machine(D, c="abcdefgh"))
        self.fails(InvalidOperation, renamed_machine, D, c="abcdefghi")
        self.fails(InvalidOperation, renamed_machine, D, abcdefghi="c")

    def test_wrong_names(self):
        for names in unlike(spec.naming):
            self.fails(InvalidOperation, machine_renamed_by, D, names)
        for value in unlike(spec.name):
            self.fails(InvalidOperation, machine_renamed_by, D, {"c": value})
            self.fails(InvalidOperation, machine_renamed_by, D, {"c": "e", "q": value})
            self.fails(InvalidOperation, renamed_machine, D, c=value)
        for key in (0, True, None, "", "A", "abcdefghi", ("c",), "a\n", ("a", "b")):
            self.fails(InvalidOperation, machine_renamed_by, D, {key: "e"})
            self.fails(InvalidOperation, machine_renamed_by, NONE, {key: "e"})
        for names in ([("c", "e")], (("c", "e"),), ["c", "e"], "ce"):
            self.fails(InvalidOperation, machine_renamed_by, D, names)

    def test_wrong_machines(self):
        for value in spoiled(D, FEW):
            if not spec.machine(value):
                self.fails(InvalidMachine, machine_renamed_by, value, {"c": "e"})
                self.fails(InvalidMachine, trimmed, value)


if __name__ == "__main__":
    unittest.main()
