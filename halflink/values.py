"""Checks of plain values that all parts of the package share."""

LONGEST_NAME = 8


def is_row(value, size):
    """Whether the value is a tuple with so many parts."""
    return isinstance(value, tuple) and len(value) == size


def is_whole(value):
    """Whether the value is an integer."""
    # Python derives the booleans from int, but here they are no integers.
    return isinstance(value, int) and not isinstance(value, bool)


def is_whole_from(value, least, most):
    """Whether the value is an integer within these bounds, both included."""
    return is_whole(value) and least <= value <= most


def is_name(value):
    """Whether the value is a name or, which is the same, a letter."""
    # Other alphabets have lowercase letters, too, so isalpha and islower are not enough.
    return (
        isinstance(value, str)
        and len(value) <= LONGEST_NAME
        and value.isascii()
        and value.isalpha()
        and value.islower()
    )


def are_names(value):
    """Whether the value is a tuple of names or of letters."""
    if not isinstance(value, tuple):
        return False
    # Most queues repeat one letter; this first one is a letter itself.
    known = "a"
    for part in value:
        if part != known:
            if not is_name(part):
                return False
            known = part
    return True


def is_naming(value):
    """Whether the value is a dict from names to names."""
    return isinstance(value, dict) and all([is_name(key) and is_name(value[key]) for key in value])


def is_ascending(parts):
    """Whether the parts of a tuple, which can be compared, ascend strictly."""
    for at in range(1, len(parts)):
        if not parts[at - 1] < parts[at]:
            return False
    return True
