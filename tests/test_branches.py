"""[12.1] to [12.3] and halflink.branches.branches."""

import random
import unittest

from halflink.branches.branches import Branch, branch_run, is_branch_run
from halflink.branches.replaced import with_branch
from halflink.errors import InvalidNetwork, InvalidOperation, InvalidWord, TooMany, UnknownName
from halflink.machines.machines import is_machine, make_machine, renamed_machine
from halflink.networks.networks import make_network
from halflink.talks.talks import Talk
from halflink.talks.words import mirrored_word
from tests import many, plainbranch, plaintalk, spec
from tests.branchcases import BRANCHES, CHAIN, DEEP, M, SHORT, counting, finite_network, linked, stepping
from tests.case import Case
from tests.plaintalk import order
from tests.samples import A, B, CALL, MEET, NONE, WIDE
from tests.test_words import WORD
from tests.walks import is_one_way
from tests.wrong import ALL, FEW, spoiled, unlike

X, Y = ("send", "x"), ("take", "y")
PLAIN = [plainbranch.Plain(*case) for case in BRANCHES]

# Root m can send both to a and to b; b can send before it hears of anything.
RASH = make_network(
    ("a", "m"), ("b", "m"), a=NONE,
    m=make_machine(4, (0, ("send", "a", "x"), 1), (0, ("take", "a", "y"), 2), (1, ("take", "b", "t"), 1),
                   (2, ("send", "b", "k"), 3), (3, ("send", "a", "x"), 3)),
    b=make_machine(2, (0, ("send", "m", "t"), 1)),
)


class Branches(Case):
    def test_document(self):
        branch = Branch.over(CHAIN, "a", "m")
        machine = make_machine(2, (0, ("take", "a", "go"), 1), (1, ("send", "a", "ok"), 0))
        self.same([branch == Talk.of(B), branch.names, branch.first_risk, branch.machine("a") == machine, str(branch)],
                  [True, ("b", "m"), None, True, "branch of 2 machines with 2 residuals"])

    def test_names_and_roots(self):
        for (one, other), names in {
            ("west", "mid"): ("east", "mid"), ("mid", "west"): ("west",), ("mid", "east"): ("east",),
            ("east", "mid"): ("mid", "west"), ("left", "right"): ("right",), ("right", "left"): ("left",),
        }.items():
            branch = Branch.over(WIDE, one, other)
            self.same((branch.names, branch.root), (names, other))
            self.same(str(branch), f"branch of {len(names)} machines with {len(branch)} residuals")
        self.same(Branch.over(DEEP, "m", "b").names, ("b", "e"))
        self.same(Branch.over(DEEP, "b", "m").names, ("m", "w"))
        self.same(Branch.over(DEEP, "w", "m").names, ("b", "e", "m"))
        for network, one, other in BRANCHES:
            branch = Branch.over(network, one, other)
            self.assertIs(type(branch), Branch)
            self.assertIsInstance(branch, Talk)
            self.same((branch.names, branch.root), (plainbranch.names(network, one, other), other))

    def test_one_machine_alone(self):
        for name, network in (("b", CALL), ("a", CALL), ("q", MEET), ("p", MEET), ("m", SHORT)):
            one = [other for other, _ in network[0] if other != name][0]
            branch = Branch.over(network, one, name)
            self.assertTrue(branch == Talk.of(dict(network[0])[name]))
            self.assertIsNone(branch.first_risk)
            self.same(branch.machine("a"), Talk.of(dict(network[0])[name]).machine("a"))

    def test_words_and_risks(self):
        risky = 0
        for case, plain in zip(BRANCHES, PLAIN):
            branch = Branch.over(*case)
            words = plain.words(4)
            self.same(list(branch.words()), sorted(words, key=order))
            self.same(branch.rows, Talk.from_rows(branch.rows).rows)
            self.same(branch.signs, tuple(word[0] for word in sorted(words) if len(word) == 1))
            told = [word for word in sorted(words, key=order) if plain.risky(word)]
            for word in words:
                self.assertIs(word in branch, True)
                self.gives(word in told, branch.is_risky, word)
            if told:
                self.same(branch.first_risk, told[0])
                risky += 1
            elif branch.first_risk is not None:
                self.assertGreater(len(branch.first_risk), 4)
                self.assertTrue(plain.risky(branch.first_risk))
        self.assertGreater(risky, 60)

    def test_careful_branches(self):
        apart = 0
        for case, plain in zip(BRANCHES, PLAIN):
            branch = Branch.over(*case)
            safe = branch.careful()
            self.assertIs(type(safe), Branch)
            self.same((safe.names, safe.root), (branch.names, branch.root))
            words = [word for word in plain.words(4) if plain.careful(word)]
            self.same(list(safe.words()), sorted(words, key=order))
            self.assertTrue(safe == Talk.from_rows(branch.rows).careful())
            self.assertTrue(safe.is_careful)
            for word in words:
                self.gives(plain.risky(word), safe.is_risky, word)
            for word in plain.words(3):
                if word not in words:
                    self.fails(InvalidWord, safe.is_risky, word)
                    apart += plain.risky(word)
            self.same(safe.careful().rows, safe.rows)
            self.same(safe.careful().machine("a") if len(safe) < 20 else None,
                      safe.machine("a") if len(safe) < 20 else None)
        self.assertGreater(apart, 20)

    def test_risky_words_that_are_not_careful(self):
        branch = Branch.over(RASH, "a", "m")
        self.same(branch.first_risk, (("take", "y"),))
        self.same(branch.careful().first_risk, None)
        self.assertTrue(branch.careful() == Talk.from_words((X,)))
        self.fails(InvalidWord, branch.careful().is_risky, (Y,))
        self.same(branch.careful().machine("zz"), (2, (), ((0, ("send", "zz", "x"), 1),)))
        # Behind the take, the posts of b and of m are exposed; without it, nothing is.
        self.same([branch.is_risky(word) for word in ((), (X,), (Y,), (Y, X))], [False, False, True, True])

    def test_least_machines(self):
        different = 0
        for case, plain in zip(BRANCHES, PLAIN):
            branch = Branch.over(*case)
            wanted = plain.least("zz")
            if wanted[0] <= 30:
                self.gives(wanted, branch.machine, "zz")
                self.assertTrue(is_machine(wanted))
                different += wanted[0] > len(branch)
                self.assertTrue(Talk.of(wanted) == branch)
                for word in plain.words(3):
                    behind = plaintalk.after(wanted, word)
                    self.assertIs(behind[0] in wanted[1], branch.is_risky(word))
            self.gives(plain.least("b", True), branch.careful().machine, "b")
        self.assertGreater(different, 30)

    def test_operators_return_plain_talks(self):
        for case in BRANCHES[:60]:
            branch = Branch.over(*case)
            talk = Talk.from_rows(branch.rows)
            other = Talk.of(A)
            for made, wanted in ((branch & other, talk & other), (branch | other, talk | other), (-branch, -talk),
                                 (branch & branch, talk), (branch | branch, talk), (branch(()), talk),
                                 (other & branch, other & talk), (other | branch, other | talk)):
                self.assertIs(type(made), Talk)
                self.assertTrue(made == wanted)
            for word in branch.words(longest=2):
                self.assertIs(type(branch(word)), Talk)
                self.assertTrue(branch(word) == talk(word))
            self.assertTrue(branch == talk and talk == branch and branch == Branch.over(*case))
            self.same([branch != talk, branch.is_within(talk), talk.is_within(branch)], [False, True, True])
            self.same([branch.count(length) for length in range(4)], [talk.count(length) for length in range(4)])
            self.same((len(branch), bool(branch), branch.is_careful, branch[0]),
                      (len(talk), bool(talk), talk.is_careful, ()))
            for value in ALL:
                self.assertIs(branch == value, False)
        for made in (Branch.of(A), Branch.careful_of(A), Branch.from_words((X,)), Branch.by_words(()),
                     Branch.from_rows(((),))):
            self.assertIs(type(made), Talk)
        self.same(Branch.LIMIT, 200)
        with self.assertRaises(TypeError):
            iter(Branch.over(CHAIN, "a", "m"))

    def test_branches_stay_as_they_are(self):
        branch = Branch.over(RASH, "a", "m")
        shown = (branch.rows, branch.names, branch.machine("a"))
        for _ in range(2):
            branch.careful()
            list(branch.words())
            branch.is_risky((Y,))
            self.same((branch.rows, branch.names, branch.machine("a")), shown)
        before = repr(RASH)
        Branch.over(RASH, "a", "m")
        self.same(repr(RASH), before)


class Edges(Case):
    def test_a_word_that_is_risky_by_acts_behind_it(self):
        # Only the post to b behind the last sign comes to an exposed view.
        network = counting(2, "x")
        branch = Branch.over(network, "a", "m")
        self.same([branch.is_risky((X,) * length) for length in range(6)], [False] * 3 + [True] * 3)
        self.same(branch.first_risk, (X,) * 3)
        self.same(branch_run(network, "a", "m", (X,) * 3),
                  (("m", 0), ("m", 1)) * 2 + (("m", 0),))
        long = (("m", 0), ("m", 1), ("b", 0), ("m", 0), ("m", 1), ("b", 1), ("m", 0), ("m", 1))
        self.gives(True, is_branch_run, network, "a", "m", (X,) * 3, long)

    def test_risks_alone_make_30_and_31_states(self):
        branch = Branch.over(counting(28, "x"), "a", "m")
        self.same((len(branch), branch.machine("a")[:2]), (1, (30, (29,))))
        self.same(branch.first_risk, (X,) * 29)
        branch = Branch.over(counting(29, "x"), "a", "m")
        self.same((len(branch), branch.first_risk), (1, (X,) * 30))
        self.fails((TooMany, 30), branch.machine, "a")
        self.fails(InvalidOperation, branch.machine, "A")
        self.same(str(branch), "branch of 2 machines with 1 residuals")
        # The same without letters that could be risky.
        self.same(Talk.from_rows(branch.rows).machine("a"), (1, (), ((0, ("send", "a", "x"), 0),)))

    def test_risks_alone_make_90_and_91_transitions(self):
        letters = [one + other for one in "abcde" for other in "fgh"]
        branch = Branch.over(counting(4, letters), "a", "m")
        self.same((len(branch), branch.machine("a")[0], len(branch.machine("a")[2])), (1, 6, 90))
        self.assertTrue(is_machine(branch.machine("a")))
        branch = Branch.over(counting(5, letters[:13]), "a", "m")
        self.fails((TooMany, 90), branch.machine, "a")
        self.same(len(Talk.from_rows(branch.rows).machine("a")[2]), 13)
        # With both limits passed, the states come first.
        branch = Branch.over(counting(29, letters), "a", "m")
        self.fails((TooMany, 30), branch.machine, "a")

    def test_2000_and_2001_views(self):
        root = make_machine(1, (0, ("send", "a", "x"), 0))
        self.assertTrue(Branch.over(stepping(root, 20, 10, 10), "a", "m") == Talk.of(root))
        self.gives((("m", 0),), branch_run, stepping(root, 20, 10, 10), "a", "m", (X,))
        large = stepping(root, 3, 23, 29)
        self.fails((TooMany, 2000), Branch.over, large, "a", "m")
        for word in ((), (X,), (Y,)):
            self.fails((TooMany, 2000), branch_run, large, "a", "m", word)
            self.gives(False, is_branch_run, large, "a", "m", (Y,), ())
        self.gives(True, is_branch_run, large, "a", "m", (X,), (("b", 0), ("m", 0)))
        # From the other end the branch is small.
        self.assertTrue(Branch.over(large, "m", "a") == Talk.from_words())

    def test_2000_and_2001_sets(self):
        small = make_network(("a", "m"), a=NONE, m=many.machine_2000("a"))
        self.same(len(Branch.over(small, "a", "m")), 1)
        large = make_network(("a", "m"), a=NONE, m=many.machine_2001("a"))
        self.fails((TooMany, 2000), Branch.over, large, "a", "m")
        # The careful words lead to few sets, but all words count.
        front = [(0, ("send", "a", "w"), 0)] + [(0, ("take", "a", letter), 1) for letter in "xy"]
        wide = make_machine(21, *front, *many.rows_of("take", "a", 1))
        self.same(len(Talk.careful_of(wide)), 1)
        self.fails((TooMany, 2000), Branch.over, make_network(("a", "m"), a=NONE, m=wide), "a", "m")

    def test_200_and_201_residuals(self):
        for front, word in ((1, None), (2, TooMany)):
            network = make_network(("m", "p"), p=NONE, m=many.machine_rings(front))
            if word is None:
                self.same(len(Branch.over(network, "p", "m")), 200)
                self.same(len(Branch.over(network, "p", "m").careful()), 200)
            else:
                self.fails((TooMany, 200), Branch.over, network, "p", "m")

    def test_more_than_200_residuals_with_risks(self):
        # The talk has one residual. Three rings make their last states exposed again and again: 5 * 7 * 8 = 280.
        rows = []
        for first, size in ((1, 5), (6, 7), (13, 8)):
            rows += [(0, ("step",), first), (first + size - 1, ("send", "b", "z"), 29)]
            rows += [(first + at, ("send", "a", "x"), first + (at + 1) % size) for at in range(size)]
        network = make_network(("a", "m"), ("b", "m"), a=NONE, m=make_machine(30, *rows),
                               b=make_machine(2, (0, ("send", "m", "k"), 1)))
        branch = Branch.over(network, "a", "m")
        self.same((len(branch), branch.first_risk), (1, (X,) * 4))
        for made in (branch, branch.careful()):
            self.same([many for many in range(600) if made.is_risky((X,) * many)],
                      [many for many in range(600) if many % 5 == 4 or many % 7 == 6 or many % 8 == 7])
            self.fails((TooMany, 30), made.machine, "a")

    def test_long_words(self):
        branch = Branch.over(CHAIN, "a", "m")
        word = mirrored_word(WORD) * 700
        self.assertIs(branch.is_risky(word), False)
        self.fails(InvalidWord, branch.is_risky, word + word[1:])
        run = branch_run(CHAIN, "a", "m", word)
        self.assertEqual(len(run), 6 * 700)
        self.gives(True, is_branch_run, CHAIN, "a", "m", word, run)
        self.gives(False, is_branch_run, CHAIN, "a", "m", word[:-1], run)
        self.gives(False, is_branch_run, CHAIN, "a", "m", word, run[:-1])
        self.gives(None, branch_run, CHAIN, "a", "m", word + word[1:])
        self.gives(True, is_branch_run, CHAIN, "a", "m", word[:-1], run[:-1])


class Runs(Case):
    def test_document(self):
        self.gives((("m", 0), ("m", 1), ("b", 0), ("b", 1), ("m", 2), ("m", 3)), branch_run, CHAIN, "a", "m",
                   mirrored_word(WORD))

    def test_shortest_runs(self):
        looked_at = 0
        for case, plain in zip(BRANCHES, PLAIN):
            words = plain.words(3)
            numbers = plainbranch.shortest(*case, 6, 2000)
            for word in words:
                run = branch_run(*case, word)
                self.assertTrue(plainbranch.branch_run(*case, word, run))
                self.gives(True, is_branch_run, *case, word, run)
                if numbers is not None:
                    self.assertTrue(numbers[word] == len(run) if word in numbers else len(run) > 6)
                    looked_at += len(run) > len(word)
            for word in words:
                for sign in ((("send", "x"),), (("take", "y"),), (("send", "zz"),)):
                    if word + sign not in words and len(word) < 3:
                        self.gives(None, branch_run, *case, word + sign)
        self.assertGreater(looked_at, 200)

    def test_runs_of_other_makers(self):
        seen = {True: 0, False: 0}
        for seed, (case, plain) in enumerate(zip(BRANCHES, PLAIN)):
            rng = random.Random(seed)
            network, one, other = case
            moves = [(name, index) for name, machine in network[0] for index in range(len(machine[2]))]
            for word in plain.words(2):
                run = branch_run(*case, word)
                values = [run[:at] + run[at + 1:] for at in range(len(run))]
                values += [run[:at] + run[at + 1:at + 2] + run[at:at + 1] + run[at + 2:] for at in range(len(run))]
                for _ in range(6):
                    at = rng.randint(0, len(run))
                    values.append(run[:at] + tuple(rng.choice(moves) for _ in range(rng.randint(1, 3))) + run[at:])
                for value in values:
                    wanted = plainbranch.branch_run(*case, word, value)
                    seen[wanted] += value != run
                    self.gives(wanted, is_branch_run, *case, word, value)
        self.assertGreater(min(seen.values()), 300)

    def test_inner_links_are_not_crossed(self):
        # Both queues of the inner link have letters for a moment.
        network = make_network(
            ("a", "m"), ("b", "m"), a=NONE, b=make_machine(2, (0, ("send", "m", "k"), 1), (1, ("take", "m", "t"), 1)),
            m=make_machine(3, (0, ("send", "b", "t"), 1), (1, ("take", "b", "k"), 2), (2, ("send", "a", "x"), 2)))
        self.gives(None, branch_run, network, "a", "m", (X,))
        crossed = (("m", 0), ("b", 0), ("m", 1), ("m", 2))
        self.gives(False, is_branch_run, network, "a", "m", (X,), crossed)
        self.gives(True, is_branch_run, network, "a", "m", (), crossed[:1])
        self.gives(False, is_branch_run, network, "a", "m", (), crossed[:2])
        self.gives(True, is_branch_run, network, "a", "m", (), crossed[1:2])
        self.same(Branch.over(network, "a", "m").first_risk, ())

    def test_takes_of_the_root_find_their_letters(self):
        self.gives((("m", 0),), branch_run, CHAIN, "a", "m", (("take", "go"),))
        self.gives(True, is_branch_run, CHAIN, "a", "m", (("take", "go"),), (("m", 0),))
        # Those over inner links do not.
        self.gives(None, branch_run, CHAIN, "b", "m", (("send", "go"),) * 2)
        self.gives(False, is_branch_run, CHAIN, "b", "m", (), (("m", 0),))

    def test_moves_of_the_rest(self):
        self.gives(False, is_branch_run, CHAIN, "m", "b", (), (("m", 0),))
        self.gives(False, is_branch_run, CHAIN, "a", "m", (), (("a", 0),))
        self.gives(False, is_branch_run, DEEP, "w", "m", (), (("x", 0),))
        self.gives(True, is_branch_run, DEEP, "x", "y", (("take", "x"),), (("y", 0), ("y", 1)))

    def test_every_spoiled_part(self):
        for case, word in (((CHAIN, "a", "m"), mirrored_word(WORD)), ((RASH, "a", "m"), (Y, X)), ((MEET, "q", "p"), ())):
            run = branch_run(*case, word)
            for value in list(spoiled(run, FEW + ("m", ("m", 0)))) + list(ALL):
                self.gives(plainbranch.branch_run(*case, word, value), is_branch_run, *case, word, value)
        run = (("m", 0), ("m", True), ("b", 0), ("b", 1), ("m", 2), ("m", 3))
        self.gives(False, is_branch_run, CHAIN, "a", "m", mirrored_word(WORD), run)


class Replaced(Case):
    """[12.3], against the configurations of small networks."""

    def test_least_machines_in_the_place_of_branches(self):
        counts = {}
        for seed in range(120):
            for case in linked(finite_network(seed)):
                network, one, other = case
                branch = Branch.over(*case)
                old = plainbranch.uncrossed(network, 3000)
                if old is None:
                    continue
                rest = {plainbranch.rest(*case, conf) for conf in old}
                for careful in (False, True):
                    least = (branch.careful() if careful else branch).machine(one)
                    changed = with_branch(network, one, other, least)
                    new = plainbranch.uncrossed(changed, 3000)
                    at = [name for name, _ in changed[0]].index(other)
                    final = any(conf[0][at] in least[1] for conf in spec_all(changed))
                    one_way = is_one_way(network, None)
                    self.assertIs(one_way, is_one_way(changed, None) and not final)
                    if one_way or not careful:
                        self.assertEqual(rest, {plainbranch.rest(changed, one, other, conf) for conf in new})
                    key = (careful, one_way, len(branch.names) > 1)
                    counts[key] = counts.get(key, 0) + 1
        self.assertGreater(min(counts.values()), 15)
        self.assertEqual(len(counts), 8)


def spec_all(network):
    """All configurations that runs lead to."""
    found, waiting = {spec.first(network)}, [spec.first(network)]
    while waiting:
        for behind in spec.steps(network, waiting.pop()).values():
            if behind not in found:
                found.add(behind)
                waiting.append(behind)
    return found


class Errors(Case):
    def test_arguments_in_order(self):
        calls = (
            (Branch.over, ()), (branch_run, ("word",)), (branch_run, (None,)), (is_branch_run, (None, None)),
            (is_branch_run, ((), ("m", 0))),
        )
        for function, rest in calls:
            for value in unlike(spec.network):
                self.fails(InvalidNetwork, function, value, 0, 0, *rest)
            for value in unlike(lambda part: part in ("a", "b", "m"), ALL + ("c",)):
                self.fails((UnknownName, value), function, CHAIN, value, 0, *rest)
                self.fails((UnknownName, value), function, CHAIN, "a", value, *rest)
            for one, other in (("a", "b"), ("b", "a"), ("m", "m"), ("a", "a")):
                self.fails(InvalidOperation, function, CHAIN, one, other, *rest)
        for value in unlike(plaintalk.word):
            self.fails(InvalidWord, branch_run, CHAIN, "a", "m", value)
            self.fails(InvalidWord, is_branch_run, CHAIN, "a", "m", value, None)
        large = stepping(NONE, 3, 23, 29)
        self.fails(InvalidWord, branch_run, large, "a", "m", ("send", "x"))
        self.fails((TooMany, 2000), branch_run, large, "a", "m", (X,))

    def test_words_that_branches_do_not_have(self):
        branch = Branch.over(CHAIN, "a", "m")
        for value in unlike(lambda part: part == ()) + [WORD, list(mirrored_word(WORD)), (("take", "ok"),)]:
            self.fails(InvalidWord, branch.is_risky, value)
        for value in spoiled(mirrored_word(WORD), FEW):
            if not (plaintalk.word(value) and plainbranch.Plain(CHAIN, "a", "m").has(value)):
                self.fails(InvalidWord, branch.is_risky, value)

    def test_names_of_neighbours(self):
        for case in (BRANCHES[0], (CHAIN, "a", "m"), (counting(29, "x"), "a", "m")):
            for value in unlike(spec.name):
                self.fails(InvalidOperation, Branch.over(*case).machine, value)
        self.same(Branch.over(SHORT, "a", "m").machine("zz"), renamed_machine(Talk.of(B).machine("a"), a="zz"))

    def test_machines_of_the_document(self):
        self.assertTrue(is_machine(M) and spec.network(CHAIN) and spec.network(DEEP))


if __name__ == "__main__":
    unittest.main()
