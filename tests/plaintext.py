"""Stage 16 once more: texts by regular expressions; what is read is written again and compared."""

import re

from tests import plaintalk, spec

NUMBER = "(0|[1-9][0-9]{0,3})"
NAME = "[a-z]{1,8}"


def word_text(word):
    return " ".join({"send": "!", "take": "?"}[way] + letter for way, letter in word) or "-"


def moves_text(moves):
    return " ".join(f"{name}.{index}" for name, index in moves) or "-"


def deed_text(deed):
    if len(deed) == 1:
        return "."
    return ("!" if deed[0] == "send" else "?") + deed[1] + "." + deed[2]


def machine_lines(title, machine):
    size, finals, transitions = machine
    return [" ".join((title, str(size), ",".join(map(str, finals)) or "-"))] + [
        " ".join((str(before), deed_text(deed), str(behind))) for before, deed, behind in transitions]


def machine_text(machine):
    return "\n".join(machine_lines("machine", machine))


def network_text(net):
    lines = [line for name, machine in net[0] for line in machine_lines(name, machine)]
    return "\n".join(lines + [one + " - " + other for one, other in net[1]])


def configuration_text(net, conf):
    lines = [",".join(map(str, conf[0]))]
    for (one, other), queue in zip(spec.channels(net), conf[1]):
        if queue:
            lines.append(one + " > " + other + ": " + " ".join(queue))
    return "\n".join(lines)


def matched(pattern, text):
    return type(text) is str and re.fullmatch(pattern, text) is not None


def word(text):
    if not matched(f"-|[!?]{NAME}( [!?]{NAME})*", text):
        return None
    found = tuple(({"!": "send", "?": "take"}[part[0]], part[1:]) for part in text.split(" ") if text != "-")
    return found if plaintalk.word(found) and word_text(found) == text else None


def moves(text):
    if not matched(rf"-|{NAME}\.{NUMBER}( {NAME}\.{NUMBER})*", text):
        return None
    found = tuple((part.split(".")[0], int(part.split(".")[1])) for part in text.split(" ") if text != "-")
    return found if all(index <= 89 for _, index in found) and moves_text(found) == text else None


def machine_of(lines):
    """The machine whose first line, without its first word, and whose other lines are told; or None."""
    if not matched(f"{NUMBER} (-|{NUMBER}(,{NUMBER})*)", lines[0]):
        return None
    if not all(matched(rf"{NUMBER} (\.|[!?]{NAME}\.{NAME}) {NUMBER}", line) for line in lines[1:]):
        return None
    size, finals = lines[0].split(" ")
    rows = []
    for line in lines[1:]:
        before, deed, behind = line.split(" ")
        rows.append((int(before), ("step",) if deed == "." else (
            {"!": "send", "?": "take"}[deed[0]], *deed[1:].split(".")), int(behind)))
    found = (int(size), () if finals == "-" else tuple(map(int, finals.split(","))), tuple(rows))
    return found if spec.machine(found) else None


def machine(text):
    if type(text) is not str or not text.startswith("machine "):
        return None
    found = machine_of([text.split("\n")[0][8:]] + text.split("\n")[1:])
    return found if found is not None and machine_text(found) == text else None


def network(text):
    if type(text) is not str:
        return None
    blocks, links = [], []
    for line in text.split("\n"):
        if matched(f"{NAME} - {NAME}", line):
            links.append(tuple(line.split(" - ")))
        elif matched(f"{NAME} {NUMBER} .*", line):
            name, _, rest = line.partition(" ")
            blocks.append((name, [rest]))
        elif blocks:
            blocks[-1][1].append(line)
        else:
            return None
    machines = tuple((name, machine_of(lines)) for name, lines in blocks)
    if any(made is None for _, made in machines):
        return None
    found = (machines, tuple(links))
    return found if spec.network(found) and network_text(found) == text else None


def configuration(net, text):
    if type(text) is not str:
        return None
    first, *lines = text.split("\n")
    if not matched(f"{NUMBER}(,{NUMBER})*", first):
        return None
    queues = {channel: () for channel in spec.channels(net)}
    for line in lines:
        if not matched(f"{NAME} > {NAME}: {NAME}( {NAME})*", line):
            return None
        one, _, other, *letters = line.split(" ")
        if (one, other[:-1]) not in queues:
            return None
        queues[one, other[:-1]] = tuple(letters)
    found = (tuple(map(int, first.split(","))), tuple(queues[key] for key in sorted(queues)))
    return found if spec.configuration(net, found) and configuration_text(net, found) == text else None


def other_texts(rng, text, many):
    """Texts with some signs or lines left out, added, replaced or exchanged."""
    signs = "0123489abz!?.,-: >\n\r\t%AZ" + "\u0663\u00b2\u00e9\u0430\uff11\u2028\x0b\x85"
    found = []
    for _ in range(many):
        kind = rng.randrange(7)
        at, far = rng.randint(0, len(text)), rng.randint(0, len(text))
        if kind == 0:
            found.append(text[:at] + text[at + 1:])
        elif kind == 1:
            found.append(text[:at] + rng.choice(signs) + text[at:])
        elif kind == 2:
            found.append(text[:at] + rng.choice(signs) + text[at + 1:])
        elif kind == 3:
            found.append(text[:min(at, far)] + text[max(at, far):])
        else:
            mark = rng.choice("\n \n,") if kind < 6 else " "
            parts = text.split(mark)
            one, other = rng.randrange(len(parts)), rng.randrange(len(parts))
            if kind == 4:
                parts[one], parts[other] = parts[other], parts[one]
            elif kind == 5:
                parts.insert(one, parts[other])
            else:
                del parts[one]
            found.append(mark.join(parts))
    return found
