"""Tables: texts with one line for each row."""

from halflink.errors import InvalidNumber
from halflink.machines.machines import check_machine
from halflink.talks.talks import check_talk
from halflink.text.formats import text_of_deed
from halflink.values import is_whole_from

MAX_LONGEST = 40


def transition_table(machine):
    """The transitions of a machine, with their indices, and with a star behind a final next state."""
    check_machine(machine)
    lines = []
    for index, (before, deed, behind) in enumerate(machine[2]):
        mark = "*" if behind in machine[1] else " "
        lines.append(f"{index:>3} {before:>3} {text_of_deed(deed):<18} {behind:>3}{mark}")
    return "\n".join(lines)


def count_table(talk, longest):
    """The numbers of the words of a talk with each length up to the longest."""
    check_talk(talk)
    if not is_whole_from(longest, 0, MAX_LONGEST):
        raise InvalidNumber(longest)
    return "\n".join([f"{length:>4} {talk.count(length):>30,}" for length in range(longest + 1)])
