"""[10.1] and the functions of halflink.talks.words."""

import itertools
import unittest

from halflink.errors import InvalidMachine, InvalidOperation, InvalidWord
from halflink.machines.machines import make_machine
from halflink.talks.words import indices_doing, is_doing, is_word, mirrored_word, states_after
from tests import plaintalk, spec
from tests.case import Case
from tests.plaintalk import random_single
from tests.samples import A, B, D, MID, NONE, Q
from tests.wrong import ALL, FEW, spoiled, unlike

WORD = (("send", "go"), ("take", "ok"))
SINGLES = [A, B, D, Q, NONE] + [random_single(seed) for seed in range(60)]


def least_moves(machine, word):
    """The least number of transitions of a row that does the word, by trying out all rows, and whether one exists."""
    level = {(0, 0)}
    for many in range(machine[0] * (len(word) + 2)):
        if any(done == len(word) for _, done in level):
            return many
        level = {(part[2], done + (plaintalk.sign(part) is not None)) for state, done in level for part in machine[2]
                 if part[0] == state and (plaintalk.sign(part) is None or done < len(word)
                                          and plaintalk.sign(part) == word[done])}
    return None


def is_row_doing(machine, word, value):
    if type(value) is not tuple or not all(spec.whole(index, 0, len(machine[2]) - 1) for index in value):
        return False
    state, signs = 0, []
    for index in value:
        before, _, behind = machine[2][index]
        if before != state:
            return False
        state = behind
        signs += [plaintalk.sign(machine[2][index])]
    return tuple(part for part in signs if part) == word


class Words(Case):
    def test_document(self):
        self.same([mirrored_word(WORD), indices_doing(A, WORD), states_after(A, WORD[:1]), indices_doing(A, WORD[1:]),
                   states_after(D, ())],
                  [(("take", "go"), ("send", "ok")), (0, 1), (1,), None, (0, 1)])

    def test_is_word(self):
        for value in ((), WORD, WORD * 2000, (("take", "abcdefgh"),)):
            self.gives(True, is_word, value)
        for value in unlike(plaintalk.word):
            self.gives(False, is_word, value)
            self.fails(InvalidWord, mirrored_word, value)
        for value in spoiled(WORD, FEW + ("take", ("take", "x"))):
            self.gives(plaintalk.word(value), is_word, value)
        for value in ((("step",),), (("step", "x"),), (("send", "go", 0),), ("send", "go"), (("send",),),
                      (("send", "ninecabcd"),), (("send", ""),), (("send", "X"),), ((True, "x"),), list(WORD)):
            self.gives(False, is_word, value)

    def test_mirrored_words(self):
        self.gives((), mirrored_word, ())
        self.gives((("take", "go"),) * 3000, mirrored_word, (("send", "go"),) * 3000)
        for word in plaintalk.words(random_single(5), 3):
            self.gives(word, lambda: mirrored_word(mirrored_word(word)))

    def test_all_words(self):
        done = 0
        for machine in SINGLES:
            letters = plaintalk.signs(machine)[:3] + [("send", "none")]
            for word in [part for many in range(4) for part in itertools.product(letters, repeat=many)]:
                states = plaintalk.after(machine, word)
                self.gives(states, states_after, machine, word)
                indices = indices_doing(machine, word)
                self.gives(indices, indices_doing, machine, word)
                self.assertEqual(indices is None, states == ())
                self.assertEqual(None if indices is None else len(indices), least_moves(machine, word))
                if indices is not None:
                    done += 1
                    self.gives(True, is_doing, machine, word, indices)
                    self.assertTrue(is_row_doing(machine, word, indices))
                for value in itertools.product(range(-1, min(3, len(machine[2]) + 1)), repeat=2):
                    self.gives(is_row_doing(machine, word, value), is_doing, machine, word, value)
        self.assertGreater(done, 300)

    def test_steps(self):
        machine = make_machine(4, (0, ("step",), 1), (1, ("send", "b", "x"), 2), (2, ("step",), 0), (2, ("step",), 3),
                               (0, ("step",), 0))
        word = (("send", "x"), ("send", "x"))
        self.gives((0, 1, 2, 3), states_after, machine, word)
        self.gives((0, 1), states_after, machine, ())
        self.assertEqual(len(indices_doing(machine, word)), 5)
        self.gives((), indices_doing, machine, ())
        # Steps before, between and behind the signs, as many as one likes.
        for value in ((1, 2, 3, 1, 2), (0, 0, 1, 2, 3, 0, 1, 2), (1, 2, 3, 1, 2, 4), (1, 2, 3, 1, 2, 3, 0, 0, 1)):
            self.gives(True, is_doing, machine, word, value)
        for value in ((1, 2, 3, 1), (1, 2, 3, 1, 2, 3, 1, 2), (2, 3, 1, 2), (1, 2, 1, 2), (1, 2, 3, 1, 2, 3, 4)):
            self.gives(False, is_doing, machine, word, value)
        self.gives(True, is_doing, machine, (), ())
        self.gives(True, is_doing, machine, (), (0,) * 2000)

    def test_several_transitions_for_one_deed(self):
        machine = make_machine(4, (0, ("take", "b", "x"), 1), (0, ("take", "b", "x"), 2), (2, ("take", "b", "y"), 3))
        self.gives((1, 2), states_after, machine, (("take", "x"),))
        self.gives((1, 2), indices_doing, machine, (("take", "x"), ("take", "y")))
        self.gives(False, is_doing, machine, (("take", "x"), ("take", "y")), (0, 2))

    def test_long_words(self):
        word = WORD * 2000
        self.gives((0, 1) * 2000, indices_doing, A, word)
        self.gives(True, is_doing, A, word, (0, 1) * 2000)
        self.gives(False, is_doing, A, word, (0, 1) * 1999)
        self.gives((0,), states_after, A, word)
        self.gives((1,), states_after, A, word + WORD[:1])
        self.gives((), states_after, A, word + WORD[1:])
        self.gives(None, indices_doing, A, word + WORD[1:])

    def test_wrong_values_of_is_doing(self):
        for value in ALL + tuple(spoiled((0, 1))):
            self.gives(is_row_doing(A, WORD, value), is_doing, A, WORD, value)
            self.gives(is_row_doing(A, (), value), is_doing, A, (), value)
        self.gives(False, is_doing, A, WORD, (False, True))
        self.gives(False, is_doing, A, WORD, [0, 1])

    def test_the_name_does_not_matter(self):
        other = make_machine(2, (0, ("send", "zz", "go"), 1), (1, ("take", "zz", "ok"), 0))
        self.gives((0, 1), indices_doing, other, WORD)

    def test_errors(self):
        for function, rest in ((indices_doing, ()), (is_doing, (None,)), (states_after, ())):
            for value in unlike(spec.machine):
                self.fails(InvalidMachine, function, value, 0, *rest)
            self.fails(InvalidOperation, function, MID, 0, *rest)
            for value in unlike(plaintalk.word):
                self.fails(InvalidWord, function, A, value, *rest)


if __name__ == "__main__":
    unittest.main()
