"""Tables of talks: for each place, a dict from the signs that can be read there to the places behind them.

All words that can be read from the first place are a talk. Its rows come from a table with as few places as possible.
The signs stand in each of the dicts in ascending order.
"""

from halflink.errors import TooMany
from halflink.talks.words import Doing, careful_signs, is_sign, mirrored_sign
from halflink.values import is_ascending, is_row, is_whole_from

MAX_SETS = 2000


def table_of_machine(machine, careful):
    """The table of the words, or of the careful words, of a single machine, with one place for each set of states."""
    doing = Doing(machine)
    numbers = {doing.first: 0}
    sets = [doing.first]
    table = []
    while len(table) < len(sets):
        states = sets[len(table)]
        found = doing.carefully_behind(states) if careful else doing.behind(states)
        row = {}
        for sign in found:
            behind = found[sign]
            if behind not in numbers:
                numbers[behind] = len(sets)
                sets.append(behind)
            row[sign] = numbers[behind]
        table.append(row)
        if len(sets) > MAX_SETS:
            raise TooMany(MAX_SETS)
    return table


def table_of_words(words):
    """The table of the beginnings of some words; behind each place there are only later ones."""
    table = [{}]
    for word in words:
        place = 0
        for sign in word:
            if sign not in table[place]:
                table[place][sign] = len(table)
                table.append({})
            place = table[place][sign]
    return [in_order(row) for row in table]


def in_order(row):
    """The dict with its signs in ascending order."""
    return {sign: row[sign] for sign in sorted(list(row))} if len(row) > 1 else row


def joined_table(one, other, either):
    """The table of the words that can be read in both tables, or in at least one of them."""
    # Behind a word that cannot be read in a table stands None.
    numbers = {(0, 0): 0}
    pairs = [(0, 0)]
    table = []
    while len(table) < len(pairs):
        here, there = pairs[len(table)]
        near = {} if here is None else one[here]
        far = {} if there is None else other[there]
        row = {}
        for sign in signs_of_both(near, far) if either else [sign for sign in near if sign in far]:
            behind = (near.get(sign), far.get(sign))
            if behind not in numbers:
                numbers[behind] = len(pairs)
                pairs.append(behind)
            row[sign] = numbers[behind]
        table.append(row)
    return table


def signs_of_both(row, other):
    """The list of the signs that can be read at one of two places at least, ascending."""
    more = [sign for sign in other if sign not in row]
    return sorted([*row, *more]) if more else list(row)


def careful_table(table):
    """The table of the careful words."""
    return [{sign: row[sign] for sign in careful_signs(list(row))} for row in table]


def mirrored_table(table):
    """The table of the mirrors."""
    return [in_order({mirrored_sign(sign): row[sign] for sign in row}) for row in table]


def are_within(one, other):
    """Whether all words of the one table can be read in the other one."""
    met = {(0, 0): True}
    waiting = [(0, 0)]
    while waiting:
        here, there = waiting.pop()
        for sign in one[here]:
            if sign not in other[there]:
                return False
            behind = (one[here][sign], other[there][sign])
            if behind not in met:
                met[behind] = True
                waiting.append(behind)
    return True


def classes_by_signs(table, marks):
    """A number for each place, the same one for places with the same mark where the same signs can be read."""
    numbers = {}
    classes = []
    for row, mark in zip(table, marks):
        key = (mark, *row)
        if key not in numbers:
            numbers[key] = len(numbers)
        classes.append(numbers[key])
    return classes


def places_before(behind):
    """For each place, the list of those from which one sign leads to it."""
    before = [[] for _ in behind]
    for place, ahead in enumerate(behind):
        for number in ahead:
            before[number].append(place)
    return before


def classes_of(table, marks, limit):
    """A number for each place, the same one for places from which the same words can be read, to the same marks.

    All places must be reached if there are more of them than the limit; an error is raised for more classes than that.
    """
    behind = [list(row.values()) for row in table]
    before = places_before(behind)
    classes = list(classes_by_signs(table, marks))
    sizes = [0 for _ in table]
    for number in classes:
        sizes[number] = sizes[number] + 1
    used = len(set(classes))
    dirty = list(range(len(table)))
    while dirty and used <= limit:
        # Only places behind which a number has changed can differ from the others in their class.
        groups = {}
        for place in dirty:
            key = (classes[place], *[classes[ahead] for ahead in behind[place]])
            groups.setdefault(key, []).append(place)
        parts = {}
        for key in groups:
            parts.setdefault(key[0], []).append(groups[key])
        changed = []
        for number in parts:
            looked_at = sum([len(group) for group in parts[number]])
            kept = max(parts[number], key=len) if looked_at == sizes[number] else []
            for group in parts[number]:
                if group != kept:
                    for place in group:
                        classes[place] = used
                        changed.append(place)
                    sizes[number] = sizes[number] - len(group)
                    sizes[used] = len(group)
                    used = used + 1
        dirty = sorted({place for one in changed for place in before[one]})
    if used > limit:
        raise TooMany(limit)
    return classes


def classes_of_tree(table, limit):
    """The same for a table in which only later places are behind each place, and whose places are all reached."""
    numbers = {}
    classes = [0 for _ in table]
    for place in range(len(table) - 1, -1, -1):
        row = table[place]
        key = tuple([(sign, classes[row[sign]]) for sign in row])
        if key not in numbers:
            numbers[key] = len(numbers)
            if len(numbers) > limit:
                raise TooMany(limit)
        classes[place] = numbers[key]
    return classes


def ordered_places(table, classes, first):
    """A place of each class that is read from the first place, in the order of the smallest words that lead there."""
    met = {classes[first]: True}
    found = [first]
    done = 0
    while done < len(found):
        for behind in table[found[done]].values():
            if classes[behind] not in met:
                met[classes[behind]] = True
                found.append(behind)
        done = done + 1
    return found


def rows_behind(table, classes, first):
    """The rows of the talk of all words that can be read from a place, in a table whose places have such classes."""
    places = ordered_places(table, classes, first)
    numbers = {classes[place]: number for number, place in enumerate(places)}
    return tuple([
        tuple([(sign, numbers[classes[behind]]) for sign, behind in table[place].items()])
        for place in places
    ])


def rows_from(table, first):
    """The rows of the talk of all words that can be read from a place, in a table without places that are alike."""
    return rows_behind(table, list(range(len(table))), first)


def least_rows(table, limit):
    """The rows of the talk of a table; raise the error that is due if there are more than the limit."""
    return rows_behind(table, classes_of(table, [False for _ in table], limit), 0)


def marked_rows(table, marks):
    """The rows of a table in which places with different marks are not put together, and the numbers of marked rows."""
    classes = classes_of(table, marks, len(table))
    places = ordered_places(table, classes, 0)
    numbers = [number for number, place in enumerate(places) if marks[place]]
    return (rows_behind(table, classes, 0), tuple(numbers))


def table_of_rows(rows):
    """The table that has the words of these rows."""
    return [{sign: number for sign, number in row} for row in rows]


def place_behind(table, word):
    """The place behind a word, or None if it cannot be read."""
    place = 0
    for sign in word:
        if sign not in table[place]:
            return None
        place = table[place][sign]
    return place


def are_rows(value, limit):
    """Whether the value is a tuple of one row or more, up to the limit, along which words can be read."""
    if not isinstance(value, tuple) or not 1 <= len(value) <= limit:
        return False
    return all([is_table_row(row, len(value)) for row in value])


def is_table_row(value, many):
    """Whether the value is an ascending tuple of pairs of a sign, each once, and the index of one of so many rows."""
    if not isinstance(value, tuple) or not all([is_row(pair, 2) and is_sign(pair[0]) for pair in value]):
        return False
    if not all([is_whole_from(pair[1], 0, many - 1) for pair in value]):
        return False
    return is_ascending([pair[0] for pair in value])
