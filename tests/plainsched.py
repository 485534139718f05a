"""Schedulers once more: each is a plain function of what was chosen before."""

from tests import spec


def moves_fit(value):
    if type(value) is not tuple or not value:
        return False
    if not all(spec.row(move, 2) and spec.name(move[0]) and spec.whole(move[1], 0, 89) for move in value):
        return False
    return list(value) == sorted(set(value))


class Plain:
    """A scheduler that is told by its kind, and its own memory as plain values."""

    def __init__(self, kind, *given):
        self.kind = kind
        self.given = list(given)
        self.last = None
        self.asked = 0

    def copy(self):
        other = Plain(self.kind, *[part.copy() if isinstance(part, Plain) else part for part in self.given])
        other.last, other.asked = self.last, self.asked
        return other

    def choose(self, moves):
        """One of the moves, or None for an error."""
        if not moves_fit(moves):
            return None
        if self.kind == "first":
            return min(moves)
        if self.kind == "last":
            return max(moves)
        if self.kind == "named":
            names = [name for name in self.given if any(move[0] == name for move in moves)]
            return min(move for move in moves if not names or move[0] == names[0])
        if self.kind == "alternating":
            move = self.given[self.asked % 2].choose(moves)
            self.asked += move is not None
            return move
        kept = list(moves)
        if self.kind in ("quiet", "quiet turns"):
            words = {(name, index): part[1][0] for name, machine in self.given[0][0]
                     for index, part in enumerate(machine[2])}
            if not set(moves) <= set(words):
                return None
            for word in ("send", "step", "take"):
                kept = [move for move in moves if words[move] == word] or kept
            if self.kind == "quiet":
                return min(kept)
        names = sorted({move[0] for move in kept})
        name = next((name for name in names if self.last is not None and name > self.last), names[0])
        self.last = name
        return min(move for move in kept if move[0] == name)

    def text(self):
        if self.kind == "named":
            return " ".join(["named"] + self.given)
        if self.kind == "alternating":
            return " and ".join(part.text() for part in self.given)
        return self.kind
