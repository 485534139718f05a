"""A shell: commands that are asked of a desk, with texts as their answers.

Each answer comes from the words behind the command word and from the text of the further lines, if there are any.
"""

from halflink.desk.desk import Desk
from halflink.errors import InvalidCommand, ParseError
from halflink.networks.networks import channels_in, machine_of
from halflink.runs.runs import moves_in
from halflink.talks.talks import Talk
from halflink.text.formats import (
    NOTHING, format_configuration, format_moves, number_in, parse_machine, parse_moves, parse_network, parsed,
)
from halflink.values import is_name

NO_ANSWER = "none"


def name_in(text):
    """The name that is written in a text; raise the error that is due for other texts."""
    if not is_name(text):
        raise ParseError("not a name")
    return text


def do_answer(desk, given):
    """The answer to do MOVES."""
    return str(desk.perform(("do", parse_moves(" ".join(given)))))


def add_answer(desk, given):
    """The answer to add NAME, with a machine in further lines."""
    name = name_in(given[0])
    return str(desk.perform(("add", name, parse_machine(given[1]))))


def drop_answer(desk, given):
    """The answer to drop NAME."""
    return str(desk.perform(("drop", name_in(given[0]))))


def join_answer(desk, given):
    """The answer to join NAME NAME."""
    return str(desk.perform(("join", name_in(given[0]), name_in(given[1]))))


def part_answer(desk, given):
    """The answer to part NAME NAME."""
    return str(desk.perform(("part", name_in(given[0]), name_in(given[1]))))


def undo_answer(desk, given):
    """The answer to undo N."""
    return str(desk.undo(parsed(number_in(given[0]))))


def redo_answer(desk, given):
    """The answer to redo N."""
    return str(desk.redo(parsed(number_in(given[0]))))


def now_answer(desk, _):
    """The answer to now."""
    return format_configuration(desk.network, desk.now)


def moves_answer(desk, _):
    """The answer to moves."""
    return format_moves(tuple(moves_in(desk.network, desk.now)))


def crossing_answer(desk, _):
    """The answer to crossing."""
    run = desk.crossing_run()
    return NO_ANSWER if run is None else format_moves(run)


def bounds_answer(desk, _):
    """The answer to bounds."""
    pairs = zip(channels_in(desk.network), desk.queue_bounds())
    found = [f"{sender}>{taker} {NO_ANSWER if bound is None else bound}" for (sender, taker), bound in pairs]
    return ", ".join(found) if found else NOTHING


def end_answer(desk, _):
    """The answer to end."""
    word, found = desk.end_paper()
    return format_moves(found) if word == "run" else NO_ANSWER


def words_answer(desk, given):
    """The answer to words NAME."""
    talk = Talk.of(machine_of(desk.network, name_in(given[0])))
    return f"{len(talk)} {len(talk.careful())}"


# The number of words behind each command word but do, which has at least one, and what is answered.
COUNTS = {
    "add": 1, "bounds": 0, "crossing": 0, "drop": 1, "end": 0, "join": 2, "load": 0, "moves": 0, "now": 0, "part": 2,
    "redo": 1, "undo": 1, "words": 1,
}
ANSWERS = {
    "add": add_answer, "bounds": bounds_answer, "crossing": crossing_answer, "do": do_answer, "drop": drop_answer,
    "end": end_answer, "join": join_answer, "moves": moves_answer, "now": now_answer, "part": part_answer,
    "redo": redo_answer, "undo": undo_answer, "words": words_answer,
}


def has_form(word, given, further):
    """Whether a command word may stand before these words, and before further lines or none."""
    count = max(1, len(given)) if word == "do" else COUNTS.get(word)
    return len(given) == count and further == (word in ("add", "load"))


class Shell:
    """Commands asked of a desk, which is loaded first."""

    WORDS = (
        "add", "bounds", "crossing", "do", "drop", "end", "join", "load", "moves", "now", "part", "redo", "undo",
        "words",
    )

    def __init__(self):
        self._desk = None
        self._done = []

    def answer(self, command):
        """Run a command, and return its answer."""
        if not isinstance(command, str):
            raise InvalidCommand("not a string")
        line, mark, text = command.partition("\n")
        word, *given = line.split(" ")
        if not has_form(word, given, mark != ""):
            raise InvalidCommand("not a command")
        if word == "load":
            answer = self._load(text)
        elif self._desk is None:
            raise InvalidCommand("no desk yet")
        else:
            action = ANSWERS[word]
            answer = action(self._desk, given + [text] if mark else given)
        self._done.append(word)
        return answer

    def _load(self, text):
        """Put a desk with the network of this text in the place of the old one, and return the answer."""
        self._desk = Desk(parse_network(text))
        return str(len(self._desk))

    def answer_all(self, commands):
        """Run the commands of a tuple in order, and return the tuple of their answers."""
        if not isinstance(commands, tuple):
            raise InvalidCommand("not a tuple of commands")
        return tuple([self.answer(command) for command in commands])

    def desk(self):
        """A new desk with the network and the configuration of the shell's desk, or None."""
        return None if self._desk is None else Desk(self._desk.network, start=self._desk.now)

    def __len__(self):
        return len(self._done)

    def __str__(self):
        return f"shell with {len(self._done)} answers"
