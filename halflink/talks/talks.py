"""Talks: sets of words with finitely many residuals."""

from halflink.errors import InvalidNumber, InvalidOperation, InvalidWord, TooMany
from halflink.machines.machines import MAX_STATES, MAX_TRANSITIONS
from halflink.talks.tables import (
    are_rows, are_within, careful_table, classes_of_tree, joined_table, least_rows, mirrored_table, place_behind,
    rows_behind, rows_from, table_of_machine, table_of_rows, table_of_words,
)
from halflink.talks.words import check_single, is_word
from halflink.values import is_name, is_whole_from

MAX_NUMBER = 1000


class Talk:
    """A talk, kept as its rows, and as the table of these for reading."""

    LIMIT = 200

    def __init__(self, rows):
        self._rows = rows
        self._table = table_of_rows(rows)

    @classmethod
    def of(cls, machine):
        """The talk of all words that a single machine does."""
        check_single(machine)
        return Talk(least_rows(table_of_machine(machine, False), cls.LIMIT))

    @classmethod
    def careful_of(cls, machine):
        """The talk of all careful words that a single machine does."""
        check_single(machine)
        return Talk(least_rows(table_of_machine(machine, True), cls.LIMIT))

    @classmethod
    def from_words(cls, *words):
        """The talk of all beginnings of these words."""
        return cls.by_words(words)

    @classmethod
    def by_words(cls, words):
        """The talk of all beginnings of the words of a tuple."""
        if not isinstance(words, tuple) or not all([is_word(word) for word in words]):
            raise InvalidWord("not a tuple of words")
        # Each beginning of a longest word has a residual of its own.
        if any([len(word) >= cls.LIMIT for word in words]):
            raise TooMany(cls.LIMIT)
        table = table_of_words(words)
        return Talk(rows_behind(table, classes_of_tree(table, cls.LIMIT), 0))

    @classmethod
    def from_rows(cls, rows):
        """The talk of all words that can be read along these rows from the first one."""
        if not are_rows(rows, cls.LIMIT):
            raise InvalidOperation("not a tuple of rows")
        return Talk(least_rows(table_of_rows(rows), cls.LIMIT))

    @property
    def rows(self):
        """One row for each residual, with the signs with which its words begin and the numbers behind them."""
        return self._rows

    @property
    def signs(self):
        """The signs with which words begin, ascending."""
        return tuple([sign for sign, _ in self._rows[0]])

    @property
    def is_careful(self):
        """Whether no word takes anything at a point where the talk also has a send."""
        # In an ascending row, sends stand first and takes last.
        return not any([row != () and row[0][0][0] != row[-1][0][0] for row in self._rows])

    def _place(self, word):
        """The number of the residual behind a word, or None if the value is not a word of the talk."""
        return place_behind(self._table, word) if is_word(word) else None

    def __contains__(self, value):
        return self._place(value) is not None

    def __call__(self, word):
        """The residual of a word."""
        place = self._place(word)
        if place is None:
            raise InvalidWord("not a word of the talk")
        return Talk(rows_from(self._table, place))

    def __getitem__(self, number):
        if not is_whole_from(number, 0, MAX_NUMBER):
            raise InvalidNumber(number)
        word = numbered_word(self._rows, number)
        if word is None:
            raise InvalidNumber(number)
        return word

    def __iter__(self):
        raise TypeError("a talk is not gone through")

    def __and__(self, other):
        check_talk(other)
        return Talk(least_rows(joined_table(self._table, other._table, False), self.LIMIT))

    def __or__(self, other):
        check_talk(other)
        return Talk(least_rows(joined_table(self._table, other._table, True), self.LIMIT))

    def __neg__(self):
        return Talk(rows_from(mirrored_table(self._table), 0))

    def is_within(self, other):
        """Whether all words of this talk are words of the other one."""
        check_talk(other)
        return are_within(self._table, other._table)

    def __eq__(self, value):
        return isinstance(value, Talk) and self._rows == value._rows

    def __bool__(self):
        return bool(self._rows[0])

    def __len__(self):
        return len(self._rows)

    def __str__(self):
        return f"talk with {len(self._rows)} residuals"

    def careful(self):
        """The careful part."""
        return Talk(least_rows(careful_table(self._table), self.LIMIT))

    def count(self, length):
        """The number of words with this length."""
        if not is_whole_from(length, 0, self.LIMIT):
            raise InvalidNumber(length)
        return count_of_words(self._rows, length)

    def words(self, *, longest=4):
        """All words up to this length, in their order."""
        if not is_whole_from(longest, 0, self.LIMIT):
            raise InvalidNumber(longest)
        lives = going_on(self._rows, longest)
        for length in range(longest + 1):
            yield from words_with(self._rows, lives, length)

    def machine(self, other):
        """The machine with one state for each residual, and the transitions that the rows tell."""
        if not is_name(other):
            raise InvalidOperation("not a name")
        return machine_of_rows(self._rows, (), other)


def check_talk(value):
    """Raise the error that is due for what is no talk."""
    if not isinstance(value, Talk):
        raise InvalidOperation("not a talk")


def count_of_words(rows, length):
    """The number of words with this length that can be read along the rows."""
    many = {0: 1}
    times = [repeated([behind for _, behind in row]) for row in rows]
    for _ in range(length):
        many = counts_behind(times, many)
    return sum(list(many.values()))


def repeated(numbers):
    """How often each of the numbers stands in a list."""
    times = {}
    for number in numbers:
        times[number] = times.get(number, 0) + 1
    return times


def counts_behind(times, many):
    """How many words lead to each row, from the numbers of those with one sign less; other rows are left out.

    For each row, times tells how many signs lead from it to each row.
    """
    longer = {}
    for place in many:
        for behind, count in times[place].items():
            longer[behind] = longer.get(behind, 0) + many[place] * count
    return longer


def numbered_word(rows, number):
    """The word with this number, or None if there are not so many words."""
    times = [repeated([behind for _, behind in row]) for row in rows]
    levels = [{0: 1}]
    left = number
    words = 1
    while left >= words:
        left = left - words
        longer = counts_behind(times, levels[-1])
        if not longer:
            return None
        levels.append(longer)
        words = sum(list(longer.values()))
    # For the rows of each level, the last one first, how many words with the missing signs can be read from them.
    counts = [{place: 1 for place in levels[-1]}]
    for level in levels[:-1][::-1]:
        ahead = counts[-1]
        counts.append({place: sum([ahead[behind] for _, behind in rows[place]]) for place in level})
    word = []
    place = 0
    for many in counts[:-1][::-1]:
        sign, place, left = sign_at(rows[place], many, left)
        word.append(sign)
    return tuple(word)


def sign_at(row, many, number):
    """The sign of a word with this number, the row behind it, and the number of the rest of the word there."""
    for sign, behind in row:
        if number < many[behind]:
            return (sign, behind, number)
        number = number - many[behind]
    return None


def going_on(rows, longest):
    """For each length, up to the one from which on nothing changes, whether each row has a word of it."""
    lives = [[True for _ in rows]]
    while len(lives) <= longest:
        longer = [any([lives[-1][behind] for _, behind in row]) for row in rows]
        if longer == lives[-1]:
            break
        lives.append(longer)
    return lives


def words_with(rows, lives, length):
    """All words with this length, in their order."""
    word = []
    turns = [(0, 0)]
    while turns:
        place, turn = turns.pop()
        # The signs behind this row belong to the words before.
        del word[len(turns):]
        if len(word) == length:
            yield tuple(word)
        elif turn < len(rows[place]):
            turns.append((place, turn + 1))
            sign, behind = rows[place][turn]
            if lives[min(length - len(word) - 1, len(lives) - 1)][behind]:
                word.append(sign)
                turns.append((behind, 0))


def machine_of_rows(rows, finals, other):
    """The machine with one state for each row; raise the errors that are due if it would be too large."""
    if len(rows) > MAX_STATES:
        raise TooMany(MAX_STATES)
    transitions = [
        (state, (word, other, letter), behind)
        for state, row in enumerate(rows)
        for (word, letter), behind in row
    ]
    if len(transitions) > MAX_TRANSITIONS:
        raise TooMany(MAX_TRANSITIONS)
    return (len(rows), finals, tuple(transitions))
