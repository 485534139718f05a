"""The parts of a network, which are searched one by one: each row of the whole has a row of each part.

Whether there is a run, and how great numbers become, is told by the parts. The run itself is searched in the whole.
"""

from halflink.errors import TooMany
from halflink.values import is_ascending
from halflink.views.graphs import explored, least_weights, path_to
from halflink.views.views import run_in_acts


class Part:
    """Places of rows that belong together, and all rows to which acts at these places lead from the first row.

    The machines are the places of the machines among them. At other places, all of these rows are like the first one.
    """

    def __init__(self, source, places, times, limit):
        self.places = places
        self.machines = [place for place in places if place in source.machines]
        self.all_rows, self.ways = explored(source, self.machines, times, limit)

    def own_rows(self):
        """The list of the rows without all other places."""
        return [tuple([row[place] for place in self.places]) for row in self.all_rows]

    def weights(self):
        """The list of the least weights of the paths to the rows."""
        numbers, _ = least_weights(self.ways, 0)
        return [numbers[number] for number in range(len(self.all_rows))]

    def numbers_of(self, is_wanted):
        """The list of the numbers of those rows whose places in this part are wanted."""
        return [number for number, row in enumerate(self.all_rows) if is_wanted(row, self.places)]

    def nearest(self, wanted):
        """Any shortest run to one of the wanted rows, of which there is at least one, and the number of this row."""
        numbers, before = least_weights(self.ways, 0)
        nearest = min(wanted, key=lambda number: numbers[number])
        return (run_in_acts(path_to(before, nearest)), nearest)


def explored_parts(source, limit):
    """The parts of a source; raise the error that is due if the whole has more rows than the limit."""
    parts = []
    many = 1
    for places in source.parts:
        part = Part(source, places, many, limit)
        many = many * len(part.all_rows)
        parts.append(part)
    return parts


def whole_of(source, parts, limit):
    """The whole as one part."""
    return parts[0] if len(parts) == 1 else Part(source, list(range(len(source.first))), 1, limit)


def count_of(parts):
    """The number of rows of the whole."""
    many = 1
    for part in parts:
        many = many * len(part.all_rows)
    return many


def combined(groups):
    """All rows that have one of the rows of each group, which is a pair of a list of places and a list of rows."""
    rows = [()]
    for _, own in groups:
        rows = [head + tail for head in rows for tail in own]
    order = [place for places, _ in groups for place in places]
    ascending = sorted(order)
    if order == ascending:
        return rows
    turned = [order.index(place) for place in ascending]
    return [tuple([row[at] for at in turned]) for row in rows]


def rows_of(parts):
    """The list of the rows of the whole."""
    return combined([(part.places, part.own_rows()) for part in parts])


def numbered_rows(parts, numbers):
    """Pairs of the sum of the numbers of a row's parts and the row, from a list of numbers for each part."""
    sums = [0]
    for own in numbers:
        sums = [done + number for done in sums for number in own]
    return list(zip(sums, rows_of(parts)))


def run_to_wanted(source, parts, limit, is_wanted):
    """Any shortest run to a row whose places in all parts are wanted, or None.

    A function tells whether the places of a part are wanted in a row of it.
    """
    wanted = [part.numbers_of(is_wanted) for part in parts]
    if [] in wanted:
        return None
    if all([numbers[0] == 0 for numbers in wanted]):
        return ()
    whole = whole_of(source, parts, limit)
    run, _ = whole.nearest(whole.numbers_of(is_wanted))
    return run


def are_closed(source, rows):
    """Whether the rows of a list ascend, the first one is among them, and no way leads out of them."""
    inside = {row: True for row in rows}
    if source.first not in inside or not is_ascending(rows):
        return False
    if len(source.parts) > 1 and are_all_reached(source, rows):
        return True
    for row in rows:
        for _, behind in source.ways_from(row, source.machines):
            if behind not in inside:
                return False
    return True


def are_all_reached(source, rows):
    """Whether the rows of an ascending list are just those to which ways lead. Several parts tell this quickly."""
    try:
        parts = explored_parts(source, len(rows))
    except TooMany:
        return False
    return count_of(parts) == len(rows) and sorted(rows_of(parts)) == rows
