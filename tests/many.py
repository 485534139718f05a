"""Single machines whose words lead to exactly so many sets of states or residuals."""

from halflink.machines.machines import make_machine

# Behind a row with two numbers, there are two next states. From state 0, 2000 sets of these states are reached.
ROWS = (
    ((15,), (4, 16)), ((9,), (3,)), ((14,), (12,)), ((0,), (19,)), ((3,), (7,)), ((5,), (16,)), ((1,), (10,)),
    ((4,), (14,)), ((11,), (6,)), ((2,), (6,)), ((4,), (14, 17, 19)), ((12,), (11, 12)), ((8,), (3,)), ((17,), (9,)),
    ((15,), (11,)), ((5,), (8,)), ((7,), (9,)), ((16,), (9,)), ((3,), (5,)), ((6,), (6,)),
)


def rows_of(word, other, late):
    """The transitions of the table above, with all states so much later."""
    return [(state + late, (word, other, letter), behind + late)
            for state, row in enumerate(ROWS) for letter, ahead in zip("xy", row) for behind in ahead]


def machine_2000(other="p", word="send"):
    """All words over two signs, and 2000 sets of states behind them."""
    return make_machine(20, *rows_of(word, other, 0))


def machine_2001(other="p", word="send"):
    """The same with one more state in front."""
    front = [(0, (word, other, letter), 1) for letter in "xy"]
    return make_machine(21, *front, *rows_of(word, other, 1))


def machine_careful_2000(other="p"):
    """2000 sets behind careful words; a take, which is never careful, leads to one more."""
    return make_machine(21, (0, ("take", other, "x"), 20), *rows_of("send", other, 0))


def ring(size, first, letter):
    """A ring of sends of a, with another send out of its first state, to the state 29."""
    found = [(first + at, ("send", "p", "a"), first + (at + 1) % size) for at in range(size)]
    return found + [(first, ("send", "p", letter), 29)]


def machine_rings(front):
    """Rings of 2, 9 and 11 states, with so many sends of a before: 198 residuals, one of the end, and those before."""
    rings = ring(2, 7, "x") + ring(9, 9, "y") + ring(11, 18, "z")
    line = [(at, ("send", "p", "a"), at + 1) for at in range(front)]
    line += [(at, ("send", "p", "w"), 29) for at in range(front)]
    return make_machine(30, *line, *rings, (front, ("step",), 7), (front, ("step",), 9), (front, ("step",), 18))


def ring_rows(size, letter="b"):
    """Rows of a ring of sends of a with a mark at one row, which leads to an end."""
    rows = [((("send", "a"), (at + 1) % size),) for at in range(size)]
    rows[0] = ((("send", "a"), 1 % size), (("send", letter), 0))
    return tuple(rows)
