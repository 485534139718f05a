"""Values of every kind that an argument can have, to put them where they do not belong."""

from halflink.networks.configurations import configuration_with
from halflink.networks.networks import make_network
from halflink.runs.runner import Runner

from tests.samples import A, CALL, MEET


def nested(kind, depth):
    value = kind()
    for _ in range(depth - 1):
        value = {"a": value} if kind is dict else kind([value])
    return value


DEEP = (nested(tuple, 10), nested(list, 10), nested(dict, 10))

NUMBERS = (True, False, None, 0, 1, 2, -1, 3, 6, 29, 30, 31, 60, 61, 10 ** 39, -(10 ** 39))

STRINGS = (
    "", "a", "b", "A", "a1", "a b", "a.b", "a_b", "a\n", "\n", " a", "-", "0", "1", "None", "True", "eightabc",
    "ninecabcd", "step", "send", "take", "go", "x", "!go", "a" * 200, "{}", "()", "a-b", "`", "~",
)

ROWS = (
    (), (0,), (True,), (None,), ("a",), ("step",), ("a", 0), ("a", True), ("a", "b"), ("b", "a"), ((),), ((), ()),
    (0, 0), (0, True), ((0, 0), ((), ())), ("hand", "a", 0, "b", 0), (("a", 0),), (("a", "b"),), ({},), ([],),
    (1, (), ()), [1, (), ()], [], [0], ["a", 0], [()], [[]], ["a"], {}, {"a": 0}, {"a": "b"}, {"a": A},
    {0: 0}, {True: "a"}, {None: None}, {("a", "b"): ("x",)}, {"a": []}, {"a": {}}, {"": ""}, {"A": "b"},
)

MADE = (A, CALL, MEET, configuration_with(CALL), (("a", 0), ("b", 0)), ((0,), (0,)), CALL[0], Runner(CALL))

# Just too large, or wrong in one place that lies deep.
FREE = tuple((name, (1, (), ())) for name in "abcdefg")
NEAR = (
    (31, (), ()), (1, (), tuple((0, ("send", "b", one + other), 0) for one in "abcdefghij" for other in "abcdefghijk")),
    (1, (), ((0, ("send", "b", "x"), False),)), (1, (False,), ()), (FREE, ()), (FREE[:2], (("b", "a"),)),
    (FREE[:3], (("a", "b"), ("a", "c"), ("b", "c"))), (CALL[0], ()), (CALL[0][::-1], CALL[1]), (CALL[0], [("a", "b")]),
    ((("a", (31, (), ())),), ()), ((0, 2), ((), ())), ((0, False), ((), ())), ((0, 0), (("x", "X"), ())),
    ((0, 0), ((), ("ninecabcd",))), (("a", False),), ((0,), (False,)), ((0, 0), (("a", "go", False),)),
)

ALL = NUMBERS + STRINGS + ROWS + DEEP + MADE + NEAR

# A shorter choice, for places where each value is put at every depth of another one.
FEW = (
    True, False, None, 0, 1, -1, 30, 31, 10 ** 39, "", "a", "b", "A", "a\n", "ninecabcd", "step", "send", (), ("a",),
    (0,), ("a", "b"), [], ["a"], {}, {"a": 0}, DEEP[0],
)


def spoiled(value, parts=FEW):
    """The value with one part replaced, at every depth, and with parts left out, added, turned about, or in a list."""
    for part in parts:
        yield part
    if isinstance(value, tuple):
        yield list(value)
        yield from (value[:-1], value[1:], value + value[-1:], value + ((),), value[::-1], (value,))
        yield dict(enumerate(value))
        for at, part in enumerate(value):
            for inner in spoiled(part, parts):
                yield value[:at] + (inner,) + value[at + 1:]
    if type(value) is int:
        yield from (value + 1, value - 1, bool(value), str(value))
    if type(value) is str:
        yield from (value + "q", value.upper(), value + "\n", [value], (value,))


def six_machines(**more):
    """A network with as many machines as there may be, or with some more machines than that."""
    names = {name: (1, (), ()) for name in ("aa", "bb", "cc", "dd", "ee", "ff")}
    return make_network(("aa", "bb"), ("aa", "cc"), ("dd", "ee"), **names, **more)


def unlike(fits, values=ALL):
    """The values that do not fit."""
    return [value for value in values if not fits(value)]
