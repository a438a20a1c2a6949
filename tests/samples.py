"""Values that several tests use."""

from laytwice.desk import Desk
from laytwice.errors import InvalidGoal, NoRow
from laytwice.pieces import Piece
from laytwice.programs import Program
from laytwice.sheet import Sheet
from laytwice.tools import Row, Tool


class Foreign:
    """An object that says that it is equal to everything."""

    def __eq__(self, other):
        return True


def deep(depth):
    """A list nested so deep."""
    return [] if depth == 1 else [deep(depth - 1), (depth, None)]


def piece(**others):
    """A piece that differs from a(b) in these arguments."""
    return Piece("a", ["b"]).but(**others)


def many_pieces():
    """Pieces of all kinds."""
    found = []
    for parts in (("b",), ("b", "cc"), ("x", "yyyyyy", "z")):
        for number in range(96):
            found.append(Piece(
                "word",
                parts,
                broken=number % 2 == 1,
                marked=number // 2 % 2 == 1,
                ahead="up" if number // 4 % 2 == 1 else "",
                behind="back" if number // 8 % 2 == 1 else "",
                blanks=number // 16 % 3,
                left=number // 48 == 1,
            ))
    return found


def any_values():
    """Values of all kinds that the document calls any value."""
    return [
        0, 1, 2, 3, -1, -2, 10 ** 30, -10 ** 30, True, False, None,
        "", "a", "b", "abcdef", "abcdefg", "A", "aB", "a1", "a b", " a", "a ", "a\n", "a_b", "#", "# a", "a(b)",
        "\u00e4", "\u00df", "\u0131", "long", "not long", "not not long", "break", "tool", "tool\ndo break",
        [], (), ["a"], ("a",), ["a", "b"], ["a", 1], ["a", ""], [None], [True], [["a"]], (("a",),),
        ["long"], ["break"], ("not marked", "left"), ["break", "long"], [0], (1, 2), deep(8),
        Piece("a", ["b"]), Program(), Program([Piece("a", ["b"])]), Row([], ["break"]), Tool(),
        Tool([Row(["long"], ["break"])], True), [Piece("a", ["b"])], [Row([], ["join"])], (Tool(), Program()),
        NoRow(3), InvalidGoal(), Sheet(Tool(), 40, Program()), Sheet(Tool(), 40, Program()).trial(), Desk(), [Desk()],
    ]
