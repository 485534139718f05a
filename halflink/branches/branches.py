"""Branches: what the machines behind a link do over it."""

from halflink.branches.sets import (
    BranchViews, branch_names, check_linked, inner_network, nearest_with, outer_signs, table_of_branch,
)
from halflink.errors import InvalidOperation, InvalidWord
from halflink.networks.configurations import first_in
from halflink.runs.runs import crossing_on, is_run_from
from halflink.talks.tables import careful_table, least_rows, marked_rows, place_behind, table_of_rows
from halflink.talks.talks import Talk, machine_of_rows
from halflink.talks.words import check_word, is_word
from halflink.values import is_name
from halflink.views.views import run_in_acts


class Branch(Talk):
    """The talk of the words of a branch, and which of them are risky.

    The risky words lead to some of the rows of a second kind, which tell apart what differs only by its risks.
    """

    def __init__(self, names, root, rows, marked):
        super().__init__(rows)
        self._names = names
        self._root = root
        self._risk_rows, self._risks = marked
        self._risk_table = table_of_rows(self._risk_rows)

    @classmethod
    def over(cls, network, one, other):
        """The branch behind the link from the first machine to the other one, its root."""
        check_linked(network, one, other)
        table, risks = table_of_branch(BranchViews(network, one, other))
        rows = least_rows(table, cls.LIMIT)
        return cls(branch_names(network, one, other), other, rows, marked_rows(table, risks))

    @property
    def names(self):
        """The names of the machines of the branch, ascending."""
        return self._names

    @property
    def root(self):
        """The machine that the outer link leads to."""
        return self._root

    @property
    def first_risk(self):
        """The smallest risky word, or None."""
        # The rows are numbered in the order of the smallest words that lead to them.
        return smallest_word_to(self._risk_rows, self._risks[0]) if self._risks else None

    def is_risky(self, word):
        """Whether a word is risky."""
        place = place_behind(self._risk_table, word) if is_word(word) else None
        if place is None:
            raise InvalidWord("not a word of the branch")
        return place in self._risks

    def careful(self):
        """The branch of the careful words, of which those are risky that are risky here."""
        rows = least_rows(careful_table(self._table), self.LIMIT)
        risks = [place in self._risks for place in range(len(self._risk_rows))]
        return Branch(self._names, self._root, rows, marked_rows(careful_table(self._risk_table), risks))

    def machine(self, other):
        """The least machine, which is in a final state behind the risky words."""
        if not is_name(other):
            raise InvalidOperation("not a name")
        return machine_of_rows(self._risk_rows, self._risks, other)

    def __str__(self):
        return f"branch of {len(self._names)} machines with {len(self)} residuals"


def smallest_word_to(rows, number):
    """The smallest word that leads to a row, of rows that are numbered in the order of these words."""
    before = {}
    for place, row in enumerate(rows):
        for sign, behind in row:
            if behind not in before:
                before[behind] = (place, sign)
    word = []
    while number > 0:
        number, sign = before[number]
        word.append(sign)
    return tuple(word[::-1])


def branch_run(network, one, other, word):
    """Any shortest branch run of the word, or None if it is not a word of the branch."""
    check_linked(network, one, other)
    check_word(word)
    path = nearest_with(BranchViews(network, one, other), word)
    return None if path is None else run_in_acts(path)


def is_branch_run(network, one, other, word, value):
    """Whether the value is a branch run of the word."""
    check_linked(network, one, other)
    check_word(word)
    inside = inner_network(network, one, other)
    start = first_in(inside)
    if not is_run_from(inside, value, start) or crossing_on(inside, value, start) is not None:
        return False
    signs = outer_signs(network, one, other)
    return tuple([signs[move] for move in value if move in signs]) == word
