"""[16.1] and halflink.text.formats."""

import random
import unittest

from halflink.errors import (
    InvalidConfiguration, InvalidMachine, InvalidNetwork, InvalidOperation, InvalidWord, ParseError,
)
from halflink.machines.machines import make_machine
from halflink.networks.configurations import configuration_with
from halflink.networks.networks import make_network
from halflink.text.formats import (
    format_configuration, format_machine, format_moves, format_network, format_word, parse_configuration, parse_machine,
    parse_moves, parse_network, parse_word,
)
from tests import plaintalk, plaintext, spec
from tests.case import Case
from tests.plaintalk import random_single
from tests.samples import CALL, D, MEET, MID, NETWORKS, NONE, WIDE, random_network, random_start
from tests.test_words import WORD
from tests.wrong import ALL, FEW, spoiled, unlike

GOING = configuration_with(CALL, {("a", "b"): ("go",)}, a=1)
MANY = [random_network(seed, 6) for seed in range(700, 740)]

# Long and strange texts of every kind.
STRANGE = [
    "", " ", "\n", "-", "--", "- -", "-\n", " -", "a", "0", "00", "9" * 5000, "1" * 100000, "machine", "machine ",
    "machine 1", "machine 1 ", "machine 1 -\n", "machine 1 - ", "machine  1 -", "machine 01 -", "machine 1 00",
    "machine +1 -", "machine 1 0,", "machine 1 ,0", "machine 2 1,0", "machine 2 0,0", "machine 31 -", "machine 0 -",
    "machine " + "1" * 5000 + " -", "machine 1 -\r\n", "machine \u0661 -", "machine \u00b2 -", "machine 1 -\n0 . 0\n",
    "machine 1 -\n0 . 0\n0 . 0", "machine 1 -\n0 . 1", "machine 1 -\n\n0 . 0", "machine 1 -\n0 ! 0", "machine 1 -\n0 !b 0",
    "machine 1 -\n0 !b. 0", "machine 1 -\n0 !.x 0", "machine 1 -\n0 !b.x.y 0", "machine 1 -\n0 b.x 0", "machine 1 -\n0  0",
    "Machine 1 -", "machine\t1 -", "machine 1 -\u20280 . 0", "!", "?", "!go?ok", "!go  ?ok", "!go ?ok ", "!Go", "go",
    "!ninecabcd", "! go", "!\u00e9", "a.0 ", "a.00", "a.90", "a.89", "a.-1", "a.+1", "a.\u0661", "a", "a.", ".0", "a.0.0",
    "a 0", "a.0,b.1", "a.0\nb.1", "a." + "8" * 5000, "x 1 -\nx 1 -", "b 1 -\na 1 -", "a 1 -\nb 1 -\nb - a",
    "a 1 -\nb 1 -\na - b\na - b", "a - b", "a 1 -\na - a", "a 1 -\na - b", "a 1 -\nb 1 -\na - b\n0 . 0",
    "a 1 -\nb 1 -\na - b\nc 1 -", "a 1 -\n\nb 1 -", "a 1 -\nb 1 -\na  - b", "a 1 -\nb 1 -\na -b", "0 . 0\na 1 -",
    "a 1 -\nb 1 -\nc 1 -\na - b\na - c\nb - c", "a 1 -\nb 1 -\nc 1 -\na - c\na - b", "\ud800", "a\x00", "!a\x00",
    "\n".join(f"{name} 1 -" for name in "abcdefg"), "0,0\n", "0,0\na > b: ", "0,0\na > b:", "0,0\na > b: go \n",
    "0,0\na > b: go\nb > a: ok", "0,0\nb > a: ok\na > b: go", "0,0\na > b: go\na > b: go", "0,0\na>b: go", "0, 0", "0,0,0",
    "0", "0,2", "0,00", "0,0\na > c: go", "0,0\na > b: go\n", "0,0\n\na > b: go", "0,0\na > b: GO", "0,0\r\na > b: go",
    "1," + "0" * 5000, "0,0\na > a: go", "0,0\na >  b: go", "0,0\na > b : go", "0,0\na > b:  go", "0,0 ", "-\na > b: go",
]


class Formats(Case):
    def test_document(self):
        self.same([format_word(WORD), format_moves((("a", 0), ("b", 1))), format_machine(D),
                   format_configuration(CALL, GOING)],
                  ["!go ?ok", "a.0 b.1", "machine 2 1\n0 . 1\n0 ?c.x 0", "1,0\na > b: go"])
        self.gives("p 2 -\n0 !q.x 1\nq 2 -\n0 !p.y 1\n0 ?p.x 1\np - q", format_network, MEET)

    def look(self, kind, values, write, read, plain_write, plain_read):
        """Look at some values there and back, and at other texts that are made from theirs."""
        rng = random.Random(kind)
        seen = {True: 0, False: 0}
        for value in values:
            text = plain_write(value)
            self.gives(text, write, value)
            self.gives(value, read, text)
            for other in plaintext.other_texts(rng, text, 60):
                wanted = plain_read(other)
                seen[wanted is not None] += 1
                if wanted is None:
                    self.fails(ParseError, read, other)
                else:
                    self.gives(wanted, read, other)
                    self.gives(other, write, wanted)
        for text in STRANGE:
            wanted = plain_read(text)
            if wanted is None:
                self.fails(ParseError, read, text)
            else:
                self.gives(wanted, read, text)
        for value in unlike(lambda part: type(part) is str):
            self.fails(ParseError, read, value)
        self.fails(ParseError, read, b"machine 1 -")
        self.assertGreater(min(seen.values()), 10, kind)

    def test_words(self):
        values = [word for seed in range(20) for word in plaintalk.words(random_single(seed), 3)][::3]
        values += [(), WORD, WORD * 800, (("take", "eightabc"),)]
        self.look("words", values, format_word, parse_word, plaintext.word_text, plaintext.word)
        self.gives("-", format_word, ())
        for value in unlike(plaintalk.word):
            self.fails(InvalidWord, format_word, value)
        for value in spoiled(WORD, FEW):
            if not plaintalk.word(value):
                self.fails(InvalidWord, format_word, value)

    def test_moves(self):
        rng = random.Random(1)
        values = [tuple((rng.choice(("a", "bb", "machine", "z")), rng.randrange(90)) for _ in range(rng.randint(0, 4)))
                  for _ in range(60)] + [(), (("a", 0),) * 3000, (("b", 89), ("a", 0), ("a", 0))]
        self.look("moves", values, format_moves, parse_moves, plaintext.moves_text, plaintext.moves)
        self.gives("-", format_moves, ())

        def fits(value):
            return type(value) is tuple and all(
                spec.row(part, 2) and spec.name(part[0]) and spec.whole(part[1], 0, 89) for part in value)

        for value in list(ALL) + list(spoiled((("a", 0), ("b", 89)), FEW)) + [(("a", 90),), (("a", -1),), (("a", True),)]:
            if not fits(value):
                self.fails(InvalidOperation, format_moves, value)
            else:
                self.gives(plaintext.moves_text(value), format_moves, value)

    def test_machines(self):
        values = [random_single(seed) for seed in range(60)] + [
            machine for network in NETWORKS for _, machine in network[0]] + [NONE, MID, make_machine(30, finals=tuple(
                range(30))), make_machine(30, *[(29, ("take", "eightabc", one + other), 0) for one in "abcdefghi"
                                                for other in "abcdefghij"])]
        self.look("machines", values, format_machine, parse_machine, plaintext.machine_text, plaintext.machine)
        self.gives("machine 1 -", format_machine, NONE)
        self.gives(NONE, parse_machine, "machine 1 -")
        for value in unlike(spec.machine):
            self.fails(InvalidMachine, format_machine, value)

    def test_networks(self):
        values = list(NETWORKS) + MANY + [
            make_network(machine=NONE), make_network(("machine", "none"), machine=NONE, none=D[:1] + ((0, 1), ()))]
        self.look("networks", values, format_network, parse_network, plaintext.network_text, plaintext.network)
        self.gives(make_network(machine=NONE), parse_network, "machine 1 -")
        for value in unlike(spec.network):
            self.fails(InvalidNetwork, format_network, value)

    def test_configurations(self):
        rng = random.Random(2)
        seen = {True: 0, False: 0}
        networks = list(NETWORKS) + MANY
        for seed, network in enumerate(networks):
            for conf in (spec.first(network), random_start(seed, network), random_start(seed + 1, network)):
                text = plaintext.configuration_text(network, conf)
                self.gives(text, format_configuration, network, conf)
                self.gives(conf, parse_configuration, network, text)
                for other in plaintext.other_texts(rng, text, 30):
                    wanted = plaintext.configuration(network, other)
                    seen[wanted is not None] += 1
                    if wanted is None:
                        self.fails(ParseError, parse_configuration, network, other)
                    else:
                        self.gives(wanted, parse_configuration, network, other)
                        self.gives(other, format_configuration, network, wanted)
                # A text may be one for another network, too.
                for more in (CALL, WIDE, networks[seed - 1]):
                    wanted = plaintext.configuration(more, text)
                    if wanted is None:
                        self.fails(ParseError, parse_configuration, more, text)
                    else:
                        self.gives(wanted, parse_configuration, more, text)
        self.assertGreater(min(seen.values()), 50)
        for text in STRANGE:
            for network in (CALL, MEET, WIDE):
                wanted = plaintext.configuration(network, text)
                if wanted is None:
                    self.fails(ParseError, parse_configuration, network, text)
                else:
                    self.gives(wanted, parse_configuration, network, text)
        long = configuration_with(CALL, {("a", "b"): ("go",) * 3000, ("b", "a"): ("ok", "x")}, b=1)
        self.gives(long, parse_configuration, CALL, format_configuration(CALL, long))

    def test_errors_of_configurations(self):
        for value in unlike(spec.network):
            self.fails(InvalidNetwork, format_configuration, value, None)
            self.fails(InvalidNetwork, parse_configuration, value, None)
        for value in unlike(lambda part: spec.configuration(CALL, part)):
            self.fails(InvalidConfiguration, format_configuration, CALL, value)
        for value in unlike(lambda part: type(part) is str):
            self.fails(ParseError, parse_configuration, CALL, value)


if __name__ == "__main__":
    unittest.main()
