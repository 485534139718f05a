"""Texts of words, moves, machines, networks and configurations; each value has exactly one text."""

from halflink.errors import InvalidOperation, ParseError
from halflink.machines.machines import check_machine, is_machine
from halflink.networks.configurations import check_configuration, fits_network
from halflink.networks.networks import channels_in, check_network, is_network
from halflink.runs.runs import are_moves
from halflink.talks.words import check_word
from halflink.values import is_ascending, is_name

NOTHING = "-"
MARKS = {"send": "!", "take": "?"}
WAYS = {"!": "send", "?": "take"}
MAX_DIGITS = 4


def number_in(text):
    """The number that is written in digits without leading zeros, or None."""
    # Python takes other digits and signs, too, and refuses very long numbers.
    if len(text) > MAX_DIGITS or not text.isascii() or not text.isdigit() or (text != "0" and text.startswith("0")):
        return None
    return int(text)


def numbers_in(text):
    """The tuple of the numbers that are separated by commas, or None."""
    numbers = tuple([number_in(part) for part in text.split(",")])
    return None if None in numbers else numbers


def parts_in(text, read):
    """The tuple of what is read from the parts that are separated by spaces, or None; nothing is written as "-"."""
    if text == NOTHING:
        return ()
    parts = tuple([read(part) for part in text.split(" ")])
    return None if None in parts else parts


def parsed(value):
    """What was read from a text; raise the error that is due if it is None."""
    if value is None:
        raise ParseError("not such a text")
    return value


def check_text(text):
    """Raise the error that is due for what is no string."""
    if not isinstance(text, str):
        raise ParseError("not a text")


def text_of_parts(parts, mark):
    """The text of parts with a mark between them, which is "-" for none."""
    return mark.join(parts) if parts else NOTHING


def sign_in(text):
    """The sign that is written like !go, or None."""
    return (WAYS[text[0]], text[1:]) if text[:1] in WAYS and is_name(text[1:]) else None


def format_word(word):
    """The text of a word."""
    check_word(word)
    return text_of_parts([MARKS[way] + letter for way, letter in word], " ")


def parse_word(text):
    """The word with this text."""
    check_text(text)
    return parsed(parts_in(text, sign_in))


def move_in(text):
    """The pair of a name and a number that is written like a.0, or None."""
    name, _, index = text.partition(".")
    return None if number_in(index) is None else (name, number_in(index))


def format_moves(moves):
    """The text of a tuple of moves."""
    if not are_moves(moves):
        raise InvalidOperation("not a tuple of moves")
    return text_of_parts([f"{name}.{index}" for name, index in moves], " ")


def parse_moves(text):
    """The tuple of moves with this text."""
    check_text(text)
    moves = parsed(parts_in(text, move_in))
    return parsed(moves if are_moves(moves) else None)


def text_of_deed(deed):
    """The text of a deed: !b.go for a send, ?b.ok for a take, a point for a step."""
    if deed[0] == "step":
        return "."
    word, other, letter = deed
    return f"{MARKS[word]}{other}.{letter}"


def deed_in(text):
    """The deed with this text, or None."""
    if text == ".":
        return ("step",)
    other, _, letter = text[1:].partition(".")
    return (WAYS[text[0]], other, letter) if text[:1] in WAYS else None


def lines_of_machine(title, machine):
    """The lines of a machine, the first of which begins with a title."""
    size, finals, transitions = machine
    states = text_of_parts([str(state) for state in finals], ",")
    rows = [f"{before} {text_of_deed(deed)} {behind}" for before, deed, behind in transitions]
    return [f"{title} {size} {states}"] + rows


def transition_in(line):
    """The transition that is written in a line, or None."""
    parts = line.split(" ")
    if len(parts) != 3:
        return None
    found = (number_in(parts[0]), deed_in(parts[1]), number_in(parts[2]))
    return None if None in found else found


def machine_in(size, finals, lines):
    """The machine with the texts of its size and its final states, and with the lines of its transitions, or None."""
    states = () if finals == NOTHING else numbers_in(finals)
    machine = (number_in(size), states, tuple([transition_in(line) for line in lines]))
    return machine if is_machine(machine) else None


def format_machine(machine):
    """The text of a machine."""
    check_machine(machine)
    return "\n".join(lines_of_machine("machine", machine))


def parse_machine(text):
    """The machine with this text."""
    check_text(text)
    lines = text.split("\n")
    parts = lines[0].split(" ")
    if len(parts) != 3 or parts[0] != "machine":
        raise ParseError("no line of a machine")
    return parsed(machine_in(parts[1], parts[2], lines[1:]))


def format_network(network):
    """The text of a network."""
    check_network(network)
    lines = []
    for name, machine in network[0]:
        lines.extend(lines_of_machine(name, machine))
    return "\n".join(lines + [f"{one} - {other}" for one, other in network[1]])


def parse_network(text):
    """The network with this text."""
    check_text(text)
    lines = text.split("\n")
    heads = [at for at, line in enumerate(lines) if is_name(line.partition(" ")[0])]
    links = [at for at in heads if lines[at].split(" ")[1:2] == [NOTHING]]
    # The links stand behind the machines.
    body = lines[:links[0]] if links else lines
    starts = [at for at in heads if at < len(body)]
    if starts[:1] != [0]:
        raise ParseError("no line of a machine")
    machines = [named_machine_in(body[at:behind]) for at, behind in zip(starts, starts[1:] + [len(body)])]
    network = (tuple(machines), tuple([link_in(line) for line in lines[len(body):]]))
    return parsed(network if is_network(network) else None)


def named_machine_in(lines):
    """The pair of a name and a machine in some lines, or None."""
    parts = lines[0].split(" ")
    return (parts[0], machine_in(parts[1], parts[2], lines[1:])) if len(parts) == 3 else None


def link_in(line):
    """The link that is written in a line, or None."""
    parts = line.split(" ")
    return (parts[0], parts[2]) if len(parts) == 3 and parts[1] == NOTHING else None


def format_configuration(network, configuration):
    """The text of a configuration of the network."""
    check_network(network)
    check_configuration(network, configuration)
    states, queues = configuration
    lines = [",".join([str(state) for state in states])]
    for (sender, taker), queue in zip(channels_in(network), queues):
        if queue:
            letters = " ".join(queue)
            lines.append(f"{sender} > {taker}: {letters}")
    return "\n".join(lines)


def parse_configuration(network, text):
    """The configuration of the network with this text."""
    check_network(network)
    check_text(text)
    lines = text.split("\n")
    found = [queue_in_line(line) for line in lines[1:]]
    if None in found:
        raise ParseError("not a line of a queue")
    named = [channel for channel, _ in found]
    channels = channels_in(network)
    if not is_ascending(named) or not all([channel in channels for channel in named]):
        raise ParseError("not the channels of the network in their order")
    queues = dict(found)
    configuration = (numbers_in(lines[0]), tuple([queues.get(channel, ()) for channel in channels]))
    return parsed(configuration if fits_network(network, configuration) else None)


def queue_in_line(line):
    """The pair of a channel and its letters, at least one, that is written like a > b: go go, or None."""
    parts = line.split(" ")
    if len(parts) < 4 or parts[1] != ">" or not parts[2].endswith(":"):
        return None
    return ((parts[0], parts[2][:-1]), tuple(parts[3:]))
