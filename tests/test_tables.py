"""[16.1] and halflink.text.tables."""

import unittest

from halflink.errors import InvalidMachine, InvalidNumber, InvalidOperation
from halflink.branches.branches import Branch
from halflink.machines.machines import make_machine
from halflink.talks.talks import Talk
from halflink.text.tables import count_table, transition_table
from tests import many, plaintext, spec
from tests.branchcases import CHAIN
from tests.case import Case
from tests.plaintalk import random_single
from tests.samples import A, D, MID, NETWORKS, NONE
from tests.test_talks import TALKS
from tests.wrong import ALL, unlike


def padded(text, width, left=False):
    blanks = " " * max(0, width - len(text))
    return text + blanks if left else blanks + text


def commas(number):
    """The digits with commas between thousands, put there by hand."""
    digits = str(number)
    parts = []
    while len(digits) > 3:
        parts.insert(0, digits[-3:])
        digits = digits[:-3]
    return ",".join([digits] + parts)


def table(machine):
    lines = []
    for index, (before, deed, behind) in enumerate(machine[2]):
        columns = (padded(str(index), 3), padded(str(before), 3), padded(plaintext.deed_text(deed), 18, True),
                   padded(str(behind), 3))
        lines.append(" ".join(columns) + ("*" if behind in machine[1] else " "))
    return "\n".join(lines)


class Tables(Case):
    def test_document(self):
        talk = Talk.of(A)
        self.same([transition_table(D), count_table(talk | -talk, 1)],
                  ["  0   0 .                    1*\n  1   0 ?c.x                 0 ",
                   "   0                              1\n   1                              2"])

    def test_transitions(self):
        machines = [machine for network in NETWORKS for _, machine in network[0]]
        machines += [random_single(seed) for seed in range(60)] + [many.machine_2000(), many.machine_rings(2)]
        machines.append(make_machine(30, (29, ("send", "eightabc", "letterab"), 29), (9, ("step",), 10), finals=(10, 29)))
        for machine in machines:
            self.gives(table(machine), transition_table, machine)
        self.gives("", transition_table, NONE)
        self.gives("  0   0 !eightabc.letterab   0*", transition_table,
                   make_machine(1, (0, ("send", "eightabc", "letterab"), 0), finals=(0,)))
        for value in unlike(spec.machine):
            self.fails(InvalidMachine, transition_table, value)

    def test_counts(self):
        for talk in TALKS:
            for longest in (0, 1, 5):
                lines = [padded(str(length), 4) + " " + padded(commas(talk.count(length)), 30)
                         for length in range(longest + 1)]
                self.same(count_table(talk, longest), "\n".join(lines))
        self.same(count_table(Branch.over(CHAIN, "a", "m"), 40).count("\n"), 40)
        self.same(count_table(Talk.from_words(), 0), "   0                              1")

    def test_great_counts(self):
        signs = [("send", one + other) for one in "abcdefghij" for other in "abcdefghij"]
        wide = Talk.from_rows((tuple((sign, 0) for sign in sorted(signs)),))
        lines = count_table(wide, 40).split("\n")
        self.same(lines[2], "   2                         10,000")
        # Ten to the twenty-second has 30 places with its commas; the next ones take more.
        self.same(lines[11], "  11 10,000,000,000,000,000,000,000")
        self.same([len(line) for line in lines[9:13]], [35, 35, 35, 38])
        self.same(lines[40], "  40 " + commas(10 ** 80))

    def test_errors(self):
        talk = Talk.of(A)
        for value in ALL + (Talk, talk.rows):
            self.fails(InvalidOperation, count_table, value, None)
        for value in unlike(lambda part: spec.whole(part, 0, 40), ALL + (41, -1)):
            self.fails((InvalidNumber, value), count_table, talk, value)
        self.gives(table(MID), transition_table, MID)


if __name__ == "__main__":
    unittest.main()
