"""[10.2], [10.3] and the class Talk."""

import itertools
import random
import unittest

from halflink.errors import InvalidMachine, InvalidNumber, InvalidOperation, InvalidWord, TooMany
from halflink.machines.machines import is_machine, make_machine
from halflink.talks.talks import Talk
from tests import many, plaintalk, spec
from tests.case import Case
from tests.plaintalk import careful, order, random_single
from tests.samples import A, B, CALL, D, MID, NONE, Q
from tests.test_words import SINGLES, WORD
from tests.wrong import ALL, FEW, spoiled, unlike

X, Y, GO = ("send", "x"), ("take", "y"), ("send", "go")
TALKS = [Talk.of(machine) for machine in SINGLES] + [
    Talk.from_words(), Talk.from_words((X,), (Y,)), Talk.from_words((X, Y, X), (Y, Y), (Y, X, X, X)),
    Talk.from_rows((((X, 0), (Y, 0)),)), Talk.from_rows(((),)), Talk.from_rows(many.ring_rows(7))]


def all_words(talk, longest):
    """All words of a talk up to a length, tried out one by one."""
    found, level = [()], [()]
    letters = sorted({sign for row in talk.rows for sign, _ in row})
    for _ in range(longest):
        level = [word + (sign,) for word in level for sign in letters if word + (sign,) in talk]
        found += level
    return sorted(found, key=order)


class Made(Case):
    def test_constants(self):
        self.same((type(Talk.LIMIT), Talk.LIMIT), (int, 200))

    def test_document(self):
        talk = Talk.of(A)
        self.same([talk.rows, WORD in talk, WORD[1:] in talk, -talk == Talk.of(B), talk[1], talk(WORD) == talk,
                   talk.is_within(talk | -talk)],
                  [(((("send", "go"), 1),), ((("take", "ok"), 0),)), True, False, True, (("send", "go"),), True, True])
        both = Talk.from_words((("send", "x"),), (("take", "y"),))
        self.same([both.careful() == Talk.from_words((("send", "x"),)), both.is_careful,
                   [both.count(n) for n in range(3)], str(both)], [True, False, [1, 2, 0], "talk with 2 residuals"])

    def test_of_machines(self):
        for machine in SINGLES + [random_single(seed, 6) for seed in range(100, 140)]:
            talk, safe = Talk.of(machine), Talk.careful_of(machine)
            words = plaintalk.words(machine, 4)
            self.same(list(talk.words()), words)
            self.same(list(safe.words()), careful(words))
            self.same(talk.rows, plaintalk.rows(machine))
            self.same(safe.rows, plaintalk.rows(machine, True))
            self.assertTrue(talk.careful() == safe and safe.careful() == safe)
            self.assertIs(talk.is_careful, talk == safe)
            self.assertIs(safe.is_careful, True)
            self.same(talk.signs, tuple(word[0] for word in words if len(word) == 1))

    def test_residuals_are_numbered_by_words(self):
        for talk in TALKS:
            numbers = []
            for word in all_words(talk, 7):
                rest = talk(word).rows
                if rest not in numbers:
                    numbers.append(rest)
            if len(numbers) == len(talk):
                for at, rest in enumerate(numbers):
                    self.same([sign for sign, _ in rest[0]], [sign for sign, _ in talk.rows[at]])

    def test_from_words(self):
        words = [(), (X,), (X, Y, X), (Y, Y), (Y, X, X, X), (X, Y, Y)]
        for count in range(4):
            for some in itertools.permutations(words, count):
                wanted = {word[:at] for word in some for at in range(len(word) + 1)} | {()}
                for talk in (Talk.from_words(*some), Talk.by_words(some), Talk.from_words(*some, *some)):
                    self.same(list(talk.words()), sorted(wanted, key=order))
        self.same(Talk.from_words().rows, ((),))
        self.same(Talk.by_words(()).rows, ((),))
        self.same(Talk.from_words(()).rows, ((),))

    def test_from_rows(self):
        for talk in TALKS:
            self.same(Talk.from_rows(talk.rows).rows, talk.rows)
            # Rows in another order, twice, and with rows that are not reached.
            size = len(talk)
            rng = random.Random(size)
            for _ in range(3):
                places = [0] + rng.sample(range(1, 2 * size + 1), 2 * size)
                first, second = places[:size], [0] + places[size + 1:2 * size]
                rows = [()] * (2 * size + 1)
                for at in range(size):
                    for own in (first, second):
                        rows[own[at]] = tuple((sign, rng.choice((first, second))[behind])
                                              for sign, behind in talk.rows[at])
                self.same(Talk.from_rows(tuple(rows)).rows, talk.rows)
        self.same(Talk.from_rows(((((X), 0),), ((Y, 5),), (), (), (), ((X, 1),))).rows, (((X, 0),),))

    def test_limits(self):
        self.assertEqual(len(Talk.of(many.machine_2000())), 1)
        self.assertEqual(len(Talk.careful_of(many.machine_2000())), 1)
        self.assertGreater(len(plaintalk.after(many.machine_2000(), (("send", "x"), ("send", "y")) * 9)), 1)
        for make in (Talk.of, Talk.careful_of):
            self.fails((TooMany, 2000), make, many.machine_2001())
            self.fails((TooMany, 200), make, many.machine_rings(2))
            self.assertEqual(len(make(many.machine_rings(1))), 200)
        self.fails((TooMany, 2000), Talk.of, many.machine_careful_2000())
        self.assertEqual(len(Talk.careful_of(many.machine_careful_2000())), 1)
        self.assertEqual(len(Talk.from_words((X,) * 199)), 200)
        self.fails((TooMany, 200), Talk.from_words, (X,) * 200)
        self.fails((TooMany, 200), Talk.by_words, ((X,) * 7000, (Y,)))
        # Many short words have many residuals, too.
        letters = [("send", one + other) for one in "abcdefghijklmnop" for other in "abcdefghijklm"]
        words = [(sign,) + (X,) * (at % 99) + (Y,) * (at // 99) for at, sign in enumerate(letters)]
        for top in (0, 50, 100):
            talk = Talk.by_words(tuple(words[:top]))
            self.same(sorted(talk.words(longest=150), key=order),
                      sorted({word[:at] for word in words[:top] for at in range(len(word) + 1)} | {()}, key=order))
        self.assertEqual(len(Talk.from_rows(many.ring_rows(200))), 200)
        self.fails(InvalidOperation, Talk.from_rows, many.ring_rows(201))
        eight, two = Talk.from_rows(many.ring_rows(8)), Talk.from_rows(many.ring_rows(25))
        three, more = Talk.from_rows(many.ring_rows(3)), Talk.from_rows(many.ring_rows(67))
        self.assertEqual((len(eight & two), len(eight), len(two)), (200, 8, 25))
        for function in (lambda: three & more, lambda: three | more):
            self.fails((TooMany, 200), function)

    def test_errors(self):
        for make in (Talk.of, Talk.careful_of):
            for value in unlike(spec.machine):
                self.fails(InvalidMachine, make, value)
            self.fails(InvalidOperation, make, MID)
        for value in unlike(plaintalk.word):
            self.fails(InvalidWord, Talk.from_words, value)
            self.fails(InvalidWord, Talk.from_words, (X,) * 300, value)
            self.fails(InvalidWord, Talk.by_words, ((), value))
        for value in unlike(lambda part: type(part) is tuple and all(plaintalk.word(word) for word in part)):
            self.fails(InvalidWord, Talk.by_words, value)
        right = (((X, 1), (Y, 0)), ((X, 0),))
        for value in list(spoiled(right, FEW + (("send", "a"),))) + list(ALL):
            if rows_fit(value):
                Talk.from_rows(value)
            else:
                self.fails(InvalidOperation, Talk.from_rows, value)
        for value in ((), (((X, 1),),), (((X, 0), (X, 0)),), (((Y, 0), (X, 0)),), (((X, True),), ()), (((X, -1),),),
                      (((X, 0), (X, 1)), ()), (((("step",), 0),),), ([(X, 0)],), [()], (((X, 0, 0),),)):
            self.fails(InvalidOperation, Talk.from_rows, value)


def rows_fit(value):
    if type(value) is not tuple or not 1 <= len(value) <= 200 or not all(type(row) is tuple for row in value):
        return False
    for row in value:
        for pair in row:
            if type(pair) is not tuple or len(pair) != 2 or not plaintalk.word((pair[0],)):
                return False
            if not spec.whole(pair[1], 0, len(value) - 1):
                return False
        if [pair[0] for pair in row] != sorted({pair[0] for pair in row}):
            return False
    return True


class Asked(Case):
    def test_in(self):
        for talk in TALKS[:30]:
            for value in ALL:
                self.assertIs(value in talk, value == () and type(value) is tuple)
            for word in talk.words(longest=2):
                self.assertIs(word in talk, True)
                for value in spoiled(word, FEW[:9] + (X, Y)):
                    wanted = plaintalk.word(value) and value in set(all_words(talk, 4))
                    self.assertIs(value in talk, wanted)
        self.assertIs(WORD * 3000 in Talk.of(A), True)
        self.assertIs(WORD * 3000 + WORD[1:] in Talk.of(A), False)

    def test_call(self):
        for talk in TALKS:
            words = all_words(talk, 5)
            for word in words:
                if len(word) <= 2:
                    wanted = [part[len(word):] for part in words if part[:len(word)] == word]
                    rest = talk(word)
                    self.same([part for part in rest.words(longest=5 - len(word))], wanted)
                    self.same(Talk.from_rows(rest.rows).rows, rest.rows)
            self.assertTrue(talk(()) == talk)
        for value in unlike(lambda part: part == ()) + [WORD[1:], WORD[:1] * 2, (X,), list(WORD)]:
            self.fails(InvalidWord, Talk.of(A), value)
        self.assertTrue(Talk.of(A)(WORD * 2000) == Talk.of(A))

    def test_numbers(self):
        for talk in TALKS:
            words = all_words(talk, 4)
            for at, word in enumerate(words[:1001]):
                self.same(talk[at], word)
            if talk.count(5) == 0:
                for number in (len(words), len(words) + 1, 1000):
                    self.fails((InvalidNumber, number), lambda talk=talk, number=number: talk[number])
        once = Talk.of(make_machine(1, (0, ("send", "b", "x"), 0)))
        for number in (0, 1, 999, 1000):
            self.same(once[number], (X,) * number)
        wide = Talk.from_rows((tuple((("send", one + other), 0) for one in "abcdef" for other in "ghijkl"),))
        found = list(itertools.islice(wide.words(longest=3), 1001))
        self.same([wide[at] for at in (0, 1, 36, 37, 500, 999, 1000)],
                  [found[at] for at in (0, 1, 36, 37, 500, 999, 1000)])
        for value in unlike(lambda part: spec.whole(part, 0, 1000), ALL + (1001, -1)):
            for talk in (once, TALKS[0], Talk.from_words()):
                self.fails((InvalidNumber, value), lambda talk=talk, value=value: talk[value])
        self.fails((InvalidNumber, 1), lambda: Talk.from_words()[1])

    def test_counts(self):
        for talk in TALKS:
            words = all_words(talk, 5)
            for length in range(6):
                self.same(talk.count(length), len([word for word in words if len(word) == length]))
        wide = Talk.from_rows((tuple((("send", one + other), 0) for one in "abcdefghij" for other in "abcdefghij"),))
        self.same([wide.count(length) for length in (0, 1, 2, 100, 200)], [1, 100, 10 ** 4, 10 ** 200, 10 ** 400])
        self.same(Talk.from_words((X,) * 199).count(199), 1)
        self.same(Talk.from_words((X,) * 199).count(200), 0)
        for value in unlike(lambda part: spec.whole(part, 0, 200), ALL + (201, -1)):
            self.fails((InvalidNumber, value), wide.count, value)
        # Words of a and b without two b side by side.
        rows = (((("send", "a"), 0), (("send", "b"), 1)), ((("send", "a"), 0),))
        numbers = [1, 2]
        while len(numbers) <= 200:
            numbers.append(numbers[-1] + numbers[-2])
        self.same([Talk.from_rows(rows).count(length) for length in range(201)], numbers[:201])

    def test_words(self):
        for talk in TALKS:
            for longest in (0, 1, 3):
                self.same(list(talk.words(longest=longest)), all_words(talk, longest))
            self.same(list(talk.words()), list(talk.words(longest=4)))
        wide = Talk.from_rows((tuple((("send", one + other), 0) for one in "abcdefghij" for other in "abcdefghij"),))
        first = list(itertools.islice(wide.words(longest=200), 20000))
        self.same(first[:102], [()] + [(sign,) for sign in wide.signs] + [(wide.signs[0],) * 2])
        self.same(first, sorted(first, key=order))
        # Of the words with 200 signs, only one is there; the others end early.
        rows = tuple(((("send", "a"), at + 1), (("send", "b"), 199)) for at in range(198))
        rows += (((("send", "a"), 199),), ())
        found = list(Talk.from_rows(rows).words(longest=200))
        self.assertEqual(len(found), 1 + 2 * 198 + 1)
        self.same(found[-1], (("send", "a"),) * 199)
        once = list(Talk.of(make_machine(1, (0, ("send", "b", "x"), 0))).words(longest=200))
        self.same(once, [(X,) * length for length in range(201)])
        for value in unlike(lambda part: spec.whole(part, 0, 200), ALL + (201, -1)):
            self.fails((InvalidNumber, value), wide.words, longest=value)

    def test_least_machines(self):
        for talk in TALKS:
            if len(talk) > 30:
                continue
            machine = talk.machine("zz")
            self.assertTrue(is_machine(machine))
            self.same(machine, (len(talk), (), tuple(sorted(
                (at, (sign[0], "zz", sign[1]), behind) for at, row in enumerate(talk.rows) for sign, behind in row))))
            self.assertTrue(Talk.of(machine) == talk)
        for value in unlike(spec.name):
            self.fails(InvalidOperation, Talk.of(A).machine, value)
            self.fails(InvalidOperation, Talk.from_words((X,) * 40).machine, value)
        self.assertEqual(Talk.from_words((X,) * 29).machine("b")[0], 30)
        self.fails((TooMany, 30), Talk.from_words((X,) * 30).machine, "b")
        signs = [("send", one + other) for one in "abcdefghij" for other in "abcdefghij"]
        self.assertEqual(len(Talk.from_words(*[(sign,) for sign in signs[:90]]).machine("b")[2]), 90)
        self.fails((TooMany, 90), Talk.from_words(*[(sign,) for sign in signs[:91]]).machine, "b")
        both = Talk.from_words((X,) * 40, *[(sign,) for sign in signs])
        self.fails((TooMany, 30), both.machine, "b")


class Operators(Case):
    def test_rules_of_sets(self):
        rng = random.Random(10)
        within = 0
        for _ in range(300):
            one, other = rng.choice(TALKS), rng.choice(TALKS)
            shown = (one.rows, other.rows)
            first, second = set(all_words(one, 4)), set(all_words(other, 4))
            try:
                both, either = one & other, one | other
            except TooMany:
                continue
            self.same(list(both.words()), sorted(first & second, key=order))
            self.same(list(either.words()), sorted(first | second, key=order))
            for made in (both, either):
                self.assertIs(type(made), Talk)
                self.same(Talk.from_rows(made.rows).rows, made.rows)
            self.assertTrue(both == other & one and either == other | one)
            self.assertTrue(both.is_within(one) and both.is_within(other))
            self.assertTrue(one.is_within(either) and other.is_within(either))
            self.assertIs(one.is_within(other), both == one)
            self.assertIs(one.is_within(other), either == other)
            within += one.is_within(other)
            self.assertTrue(both | one == one and either & one == one)
            self.assertTrue(-(one & other) == -one & -other and -(one | other) == -one | -other)
            self.assertIs(one == other, one.is_within(other) and other.is_within(one))
            self.assertIs(one != other, not one == other)
            self.same((one.rows, other.rows), shown)
        self.assertGreater(within, 30)

    def test_mirrors(self):
        for talk in TALKS:
            turned = -talk
            self.assertIs(type(turned), Talk)
            wanted = {tuple((("take" if sign[0] == "send" else "send"), sign[1]) for sign in word)
                      for word in all_words(talk, 4)}
            self.same(list(turned.words()), sorted(wanted, key=order))
            self.same(Talk.from_rows(turned.rows).rows, turned.rows)
            self.assertTrue(-turned == talk)
            self.same(len(turned), len(talk))

    def test_careful_parts(self):
        for talk in TALKS:
            safe = talk.careful()
            self.assertIs(type(safe), Talk)
            self.same(list(safe.words(longest=4)), careful(all_words(talk, 4)))
            self.assertTrue(safe.is_within(talk) and safe.careful() == safe and safe.is_careful)
            self.assertIs(talk.is_careful, safe == talk)
            for word in safe.words(longest=3):
                # A send behind a careful word is always careful.
                for sign in talk(word).signs:
                    if sign[0] == "send":
                        self.assertIn(word + (sign,), safe)
        # One talk has all words of another one, but not all of its careful words.
        small, great = Talk.from_words((Y,)), Talk.from_words((X,), (Y,))
        self.assertTrue(small.is_within(great))
        self.assertFalse(small.careful().is_within(great.careful()))

    def test_values_that_are_no_talks(self):
        talk = Talk.of(A)
        for value in ALL + (talk.rows, A, [talk], (talk,), Talk):
            self.fails(InvalidOperation, lambda value=value: talk & value)
            self.fails(InvalidOperation, lambda value=value: talk | value)
            self.fails(InvalidOperation, talk.is_within, value)
            self.assertIs(talk == value, False)
            self.assertIs(talk != value, True)
        self.assertIs(talk == Talk.from_rows(talk.rows), True)

    def test_derived_classes(self):
        class Other(Talk):
            pass

        self.assertIs(Talk.of(A) == Other(Talk.of(A).rows), True)
        self.assertIs(Other(Talk.of(A).rows) == Talk.of(A), True)
        self.assertIs(Talk.of(B) == Other(Talk.of(A).rows), False)
        for made in (Other.of(A), Other.careful_of(A), Other.from_words((X,)), Other.by_words(()),
                     Other.from_rows(((),)), -Other(Talk.of(A).rows), Other(Talk.of(A).rows) & Talk.of(A)):
            self.assertIs(type(made), Talk)

    def test_truth_length_and_text(self):
        for talk in TALKS:
            self.assertIs(bool(talk), len(all_words(talk, 1)) > 1)
            self.same(len(talk), len(talk.rows))
            self.same(str(talk), f"talk with {len(talk.rows)} residuals")
        self.assertIs(bool(Talk.from_words()), False)
        self.same(str(Talk.from_words()), "talk with 1 residuals")
        self.assertIs(bool(Talk.of(D)), True)
        self.assertIs(bool(Talk.of(NONE)), False)
        self.same(Talk.of(Q).signs, (("send", "y"), ("take", "x")))

    def test_talks_stay_as_they_are(self):
        for talk in TALKS[:40]:
            rows = talk.rows
            for _ in range(2):
                list(talk.words())
                talk.count(3)
                talk.careful()
                bool(talk), len(talk), str(talk), -talk, talk & talk, talk | TALKS[0], talk(()), talk[0]
                () in talk, talk == CALL, talk.is_within(talk), talk.signs, talk.is_careful
            self.same(talk.rows, rows)
        with self.assertRaises(TypeError):
            iter(Talk.of(A))


if __name__ == "__main__":
    unittest.main()
