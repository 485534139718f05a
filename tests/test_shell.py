"""[16.2] and the class Shell of halflink.text.shell."""

import random
import re
import unittest

from halflink.asked.bounds import queue_bounds
from halflink.asked.ends import end_paper
from halflink.desk.desk import Desk
from halflink.errors import (
    Crossed, InvalidCommand, InvalidOperation, InvalidRun, NothingToUndo, ParseError, TooMany, UnknownName,
)
from halflink.networks.configurations import configuration_with
from halflink.networks.networks import make_network
from halflink.talks.talks import Talk
from halflink.text.shell import Shell
from halflink.views.oneway import crossing_run
from tests import many, plaintext, sizes, spec
from tests.case import Case
from tests.plaindesk import PlainDesk, Refused
from tests.samples import CALL, FLOW, LONELY, MEET, NETWORKS, NONE, WIDE, random_network
from tests.test_desk import outcome, random_operation
from tests.wrong import ALL, unlike

# Machines without neighbours, between which links come and go.
LOOSE = make_network(("a", "b"), a=NONE, b=NONE, c=NONE)
WORDS = ("add", "bounds", "crossing", "do", "drop", "end", "join", "load", "moves", "now", "part", "redo", "undo",
         "words")
ARGUMENTS = {"add": 1, "drop": 1, "join": 2, "part": 2, "undo": 1, "redo": 1, "words": 1}


def name_of(text):
    return text if plaintext.matched(plaintext.NAME, text) else None


class PlainShell:
    """A shell as a plain desk; what a command asks of networks and talks is asked of the package's functions."""

    def __init__(self):
        self.plain = None
        self.many = 0

    def answer(self, command):
        if type(command) is not str:
            raise Refused("InvalidCommand")
        first, mark, text = command.partition("\n")
        word, *given = first.split(" ")
        fits = len(given) > 0 if word == "do" else len(given) == ARGUMENTS.get(word, 0)
        if word not in WORDS or not fits or bool(mark) != (word in ("add", "load")):
            raise Refused("InvalidCommand")
        if self.plain is None and word != "load":
            raise Refused("InvalidCommand")
        found = self.run(word, given, text)
        self.many += 1
        return found

    def parse(self, value):
        if value is None:
            raise Refused("ParseError")
        return value

    def run(self, word, given, text):
        if word == "load":
            self.plain = PlainDesk(self.parse(plaintext.network(text)))
            return str(len(self.plain.now()[0][0]))
        if word == "do":
            return str(self.plain.perform((("do", self.parse(plaintext.moves(" ".join(given)))),)))
        if word in ("add", "drop", "join", "part"):
            parts = tuple(self.parse(name_of(name)) for name in given)
            if word == "add":
                parts += (self.parse(plaintext.machine(text)),)
            return str(self.plain.perform(((word,) + parts,)))
        if word in ("undo", "redo"):
            number = self.parse(int(given[0]) if re.fullmatch(plaintext.NUMBER, given[0]) else None)
            return str(getattr(self.plain, word)(number))
        net, conf = self.plain.now()
        if word == "now":
            return plaintext.configuration_text(net, conf)
        if word == "moves":
            return plaintext.moves_text(sorted(spec.steps(net, conf)))
        if word == "words":
            name = self.parse(name_of(given[0]))
            if name not in dict(net[0]):
                raise Refused("UnknownName", name)
            talk = Talk.of(dict(net[0])[name])
            return f"{len(talk)} {len(talk.careful())}"
        if word == "bounds":
            found = [f"{one}>{other} {'none' if bound is None else bound}"
                     for (one, other), bound in zip(spec.channels(net), queue_bounds(net, start=conf))]
            return ", ".join(found) or "-"
        run = crossing_run(net, start=conf) if word == "crossing" else self.end(net, conf)
        return "none" if run is None else plaintext.moves_text(run)

    def end(self, net, conf):
        kind, found = end_paper(net, start=conf)
        return found if kind == "run" else None


def wanted_of(function, *arguments):
    try:
        return ("returned", function(*arguments))
    except Refused as error:
        name, *kept = error.args
        return (name, kept[0] if kept else 0)
    except Exception:
        return outcome(function, *arguments)


class ShellCase(Case):
    def state(self, shell):
        desk = shell.desk()
        return repr((len(shell), str(shell), None if desk is None else (desk.network, desk.now, desk.log())))

    def refuses(self, shell, error, command):
        before = self.state(shell)
        self.fails(error, shell.answer, command)
        self.same(self.state(shell), before)


def loaded(network):
    shell = Shell()
    shell.answer("load\n" + plaintext.network_text(network))
    return shell


class Commands(ShellCase):
    def test_document(self):
        shell = Shell()
        self.same(shell.answer_all(("load\n" + plaintext.network_text(MEET), "do p.0 q.1", "moves", "bounds", "words q")),
                  ("2", "1", "-", "p>q 0, q>p 0", "2 2"))
        self.same((len(shell), str(shell)), (5, "shell with 5 answers"))

    def test_words(self):
        self.same(Shell.WORDS, WORDS)
        self.same(Shell().WORDS, tuple(sorted(WORDS)))

    def test_every_command(self):
        shell = loaded(CALL)
        for command, answer in (
            ("now", "0,0"), ("moves", "a.0"), ("crossing", "none"), ("bounds", "a>b 1, b>a 1"), ("end", "none"),
            ("words a", "2 2"), ("do a.0", "1"), ("now", "1,0\na > b: go"), ("do b.0 b.1", "2"), ("now", "1,0\nb > a: ok"),
            ("do -", "3"), ("undo 2", "1"), ("redo 1", "2"), ("undo 0", "2"), ("add n\nmachine 1 0", "3"),
            ("join n b", "4"), ("now", "1,0,0\nb > a: ok"), ("part b n", "5"), ("drop n", "6"), ("undo 6", "0"),
            ("redo 6", "6"), ("redo 0", "6"), ("moves", "a.1"), ("bounds", "a>b 1, b>a 1"),
            ("load\n" + plaintext.network_text(LONELY), "1"), ("bounds", "-"), ("end", "-"), ("moves", "-"), ("now", "0"),
            ("words a", "1 1"), ("load\n" + plaintext.network_text(FLOW), "2"), ("bounds", "c>d none, d>c 0"),
            ("load\n" + plaintext.network_text(MEET), "2"),
        ):
            self.same(shell.answer(command), answer)
        run = plaintext.moves(shell.answer("crossing"))
        self.same(sorted(run), [("p", 0), ("q", 0)])
        self.refuses(shell, Crossed, "end")
        self.refuses(shell, Crossed, "bounds")
        self.same(shell.answer("do " + plaintext.moves_text(run)), "1")
        self.same(shell.answer("crossing"), "-")

    def test_histories(self):
        seen = {}
        for seed in range(150):
            rng = random.Random(seed)
            shell, plain = Shell(), PlainShell()
            for _ in range(30):
                command = random_command(rng, plain)
                wanted = wanted_of(plain.answer, command)
                found = outcome(shell.answer, command)
                self.same(found, wanted, command)
                key = (command.split("\n")[0].split(" ")[0], wanted[0])
                seen[key] = seen.get(key, 0) + 1
                self.same((len(shell), str(shell)), (plain.many, f"shell with {plain.many} answers"))
                desk = shell.desk()
                if plain.plain is None:
                    self.assertIsNone(desk)
                else:
                    self.same((desk.network, desk.now), plain.plain.now())
                    self.same((type(desk), desk.log()), (Desk, ()))
        for word in WORDS:
            self.assertGreater(seen[word, "returned"], 5, word)
        for key in (("do", "InvalidRun"), ("do", "ParseError"), ("undo", "NothingToUndo"), ("undo", "ParseError"),
                    ("add", "ParseError"), ("load", "ParseError"), ("drop", "UnknownName"), ("words", "UnknownName")):
            self.assertGreater(seen[key], 2, key)

    def test_answers_of_several_commands(self):
        shell = Shell()
        self.same(shell.answer_all(()), ())
        self.fails((InvalidRun, 0), shell.answer_all,
                   ("load\n" + plaintext.network_text(CALL), "do a.0", "do b.1", "do b.0"))
        # The commands before the wrong one stay.
        self.same((len(shell), shell.answer("now")), (2, "1,0\na > b: go"))
        for value in unlike(lambda part: type(part) is tuple):
            self.fails(InvalidCommand, shell.answer_all, value)
        self.fails(InvalidCommand, shell.answer_all, ["now"])
        self.same(len(shell), 3)
        for value in (("now", None), ("now", 0), ("now", "")):
            self.fails(InvalidCommand, shell.answer_all, value)
        self.same(len(shell), 6)

    def test_desks(self):
        shell = Shell()
        self.assertIsNone(shell.desk())
        shell.answer_all(("load\n" + plaintext.network_text(CALL), "do a.0"))
        desk = shell.desk()
        self.assertTrue(desk == Desk(CALL, start=configuration_with(CALL, {("a", "b"): ("go",)}, a=1)))
        self.same((type(desk), desk.log(), desk.done), (Desk, (), 0))
        desk.perform(("do", (("b", 0),)))
        # The shell's own desk stays as it was.
        self.same(shell.answer("now"), "1,0\na > b: go")
        self.same(shell.answer("undo 1"), "0")
        self.fails((NothingToUndo, 1), shell.answer, "undo 1")
        self.same(shell.desk().now, ((0, 0), ((), ())))


def random_command(rng, plain):
    """A command that is often right, with other signs in it at times."""
    if plain.plain is None and rng.random() < 0.6 or rng.random() < 0.04:
        network = rng.choice(NETWORKS + (random_network(rng.randrange(50)), LOOSE, LOOSE, LOOSE))
        command = "load\n" + plaintext.network_text(network)
    elif plain.plain is None:
        command = rng.choice(WORDS)
    else:
        net, conf = plain.plain.now()
        kind = rng.randrange(4)
        if kind == 0:
            command = rng.choice(("now", "moves", "crossing", "bounds", "end"))
        elif kind == 1:
            names = [name for name, _ in net[0]] + ["nobody"]
            command = rng.choice((f"undo {rng.randrange(4)}", f"redo {rng.randrange(3)}", f"words {rng.choice(names)}",
                                  f"drop {rng.choice(names)}"))
        else:
            command = command_of(random_operation(rng, net, conf))
    if rng.random() < 0.15:
        command = plaintext.other_texts(rng, command, 1)[0]
    return command


def command_of(operation):
    word, *given = operation
    if word == "do":
        return "do " + plaintext.moves_text(given[0])
    if word == "add":
        return f"add {given[0]}\n" + plaintext.machine_text(given[1])
    if word == "swap":
        return "now"
    return " ".join(operation)


class Refusals(ShellCase):
    def test_no_commands(self):
        for shell in (Shell(), loaded(CALL)):
            for value in ALL:
                if value not in WORDS:
                    self.refuses(shell, InvalidCommand, value)
            for command in (
                "", " ", "\n", "now ", " now", "now now", "now\n", "now\n0,0", "NOW", "no", "nowx", "moves\n", "do",
                "do\n", "do a.0\n", "load", "load ", "load x\na 1 -", "load \na 1 -", "add", "add n", "add\nmachine 1 -",
                "add n o\nmachine 1 -", "add n \nmachine 1 -", "drop", "drop a b", "drop a ", "drop  a", "drop a\n",
                "join a", "join a b c", "join a  b", "join a b\n", "part", "part a b ", "undo", "undo 1 1", "undo 1\n",
                "redo", "redo  1", "words", "words a b", "words a\n", "crossing 1", "bounds -", "end -", "end\r", "now\r",
                "\rnow", "now\t", "now\x00", "swap a 0", "replay", "\u0430dd", "now\u2028", "do\ta.0", b"now", ["now"],
            ):
                self.refuses(shell, InvalidCommand, command)

    def test_no_desk_yet(self):
        shell = Shell()
        for command in ("now", "moves", "crossing", "bounds", "end", "do a.0", "do x", "add n\nmachine 1 -", "add N\nx",
                        "drop a", "drop A", "join a b", "part a b", "undo 1", "undo x", "redo 1", "words a"):
            self.refuses(shell, InvalidCommand, command)
        self.refuses(shell, ParseError, "load\n")
        self.refuses(shell, ParseError, "load\na 1 -\n")
        self.assertIsNone(shell.desk())

    def test_parts_that_are_not_written_right(self):
        shell = loaded(CALL)
        for command in (
            "do ", "do  ", "do a.0 ", "do  a.0", "do a.0  b.0", "do a.00", "do a.90", "do A.0", "do a", "do - -", "do a.0,b.0",
            "do a.\u0660", "do a." + "1" * 5000, "drop ", "drop A", "drop ninecabcd", "drop a1", "join A b", "join a B",
            "join  b", "join a ", "part nobody B", "part B nobody", "undo x", "undo ", "undo 01", "undo 00", "undo -1",
            "undo +1", "undo 10000", "undo 1.0", "undo \u0661", "undo \u00b2", "undo " + "1" * 5000, "redo 00000", "redo x",
            "words A", "words ", "words 1", "add N\nmachine 1 -", "add \nmachine 1 -", "add n\n", "add n\nmachine 1 -\n",
            "add n\nmachine 01 -", "add n\nn 1 -", "add a\nmachine 0 -", "load\n", "load\n\na 1 -", "load\nmachine 1",
            "load\na 1 -\r", "load\na 1 -\nb 1 -\nb - a",
        ):
            self.refuses(shell, ParseError, command)
        # The first part that is wrong counts before anything is asked of the desk.
        for command in ("join nobody B", "part nobody B", "add a\nx", "words B"):
            self.refuses(shell, ParseError, command)

    def test_errors_of_the_desk(self):
        shell = loaded(CALL)
        for command, error in (
            ("do a.1", (InvalidRun, 0)), ("do a.0 a.0", (InvalidRun, 1)), ("do zz.89", (InvalidRun, 0)),
            ("add a\nmachine 1 -", InvalidOperation), ("add n\nmachine 1 -\n0 !a.x 0", InvalidOperation),
            ("drop a", InvalidOperation), ("drop nobody", (UnknownName, "nobody")),
            ("join a b", InvalidOperation), ("join a a", InvalidOperation), ("join x y", (UnknownName, "x")),
            ("join a y", (UnknownName, "y")), ("part a b", InvalidOperation), ("part x a", (UnknownName, "x")),
            ("undo 1", (NothingToUndo, 1)), ("undo 9999", (NothingToUndo, 9999)), ("redo 1", (NothingToUndo, 1)),
            ("words zz", (UnknownName, "zz")),
        ):
            self.refuses(shell, error, command)
        self.refuses(loaded(WIDE), InvalidOperation, "words mid")
        self.refuses(loaded(WIDE), InvalidOperation, "add n\nmachine 1 -")
        for machine, limit in ((many.machine_2001(), 2000), (many.machine_rings(2), 200)):
            self.refuses(loaded(make_network(("m", "p"), m=machine, p=NONE)), (TooMany, limit), "words m")
        safe = loaded(make_network(("m", "p"), m=many.machine_careful_2000(), p=NONE))
        self.refuses(safe, (TooMany, 2000), "words m")

    def test_errors_of_questions(self):
        large = loaded(sizes.VIEWS_2001)
        for command in ("crossing", "bounds", "end"):
            self.refuses(large, (TooMany, 2000), command)
        self.same(large.answer("now"), "0,0,0")
        long = loaded(FLOW)
        long.answer("do " + " ".join(["c.0"] * 20))
        self.same(long.answer("bounds"), "c>d none, d>c 0")
        long.answer("do c.0")
        for command in ("crossing", "bounds", "end"):
            self.refuses(long, (TooMany, 20), command)
        self.same(long.answer("words c"), "1 1")


if __name__ == "__main__":
    unittest.main()
