"""Pieces of a program, and the rows of text that they are written in."""

from laytwice.errors import InvalidPiece
from laytwice.kinds import are_names, is_name, is_number


def require(holds, word):
    """Raise that the argument with this name is wrong, unless it holds."""
    if not holds:
        raise InvalidPiece(word)


def is_remark(value):
    """Whether a value is a remark, or stands for none."""
    return isinstance(value, str) and (value == "" or is_name(value))


def head_of(piece):
    """What stands ahead of the items of a piece."""
    sign = "!" if piece.left else ""
    return f"{sign}{piece.word}("


def tail_of(piece):
    """What stands behind the items of a piece, and behind the comma of its mark."""
    return f")  # {piece.behind}" if piece.behind else ")"


def body_rows(piece):
    """The rows of a piece without the blank ones and without a remark ahead."""
    comma = "," if piece.marked else ""
    if not piece.broken:
        return [head_of(piece) + ", ".join(piece.parts) + comma + tail_of(piece)]
    upper = [f"  {part}," for part in piece.parts[:-1]]
    last = f"  {piece.parts[-1]}{comma}"
    return [head_of(piece), *upper, last, tail_of(piece)]


def rows_of(piece):
    """All rows of a piece."""
    blank = [""] * piece.blanks
    remark = [f"# {piece.ahead}"] if piece.ahead else []
    return [*blank, *remark, *body_rows(piece)]


class Piece:
    """A word with its items, and how it is written; it never changes."""

    def __init__(self, word, parts, broken=False, marked=False, ahead="", behind="", blanks=0, left=False):
        require(is_name(word), "word")
        require(are_names(parts), "parts")
        require(isinstance(broken, bool), "broken")
        require(isinstance(marked, bool), "marked")
        require(is_remark(ahead), "ahead")
        require(is_remark(behind), "behind")
        require(is_number(blanks, 3), "blanks")
        require(isinstance(left, bool), "left")
        self.word = word
        self.parts = tuple(parts)
        self.broken = broken
        self.marked = marked
        self.ahead = ahead
        self.behind = behind
        self.blanks = blanks
        self.left = left

    @property
    def bare(self):
        """The length of the one row, without the comma of the mark and the remark."""
        return len(head_of(self)) + len(", ".join(self.parts)) + len(")")

    def but(self, **others):
        """The piece with these arguments in the place of its own."""
        told = {
            "word": self.word,
            "parts": self.parts,
            "broken": self.broken,
            "marked": self.marked,
            "ahead": self.ahead,
            "behind": self.behind,
            "blanks": self.blanks,
            "left": self.left,
        }
        told.update(others)
        return Piece(**told)

    def __eq__(self, other):
        return (
            isinstance(other, Piece)
            and self.word == other.word
            and self.parts == other.parts
            and self.broken == other.broken
            and self.marked == other.marked
            and self.ahead == other.ahead
            and self.behind == other.behind
            and self.blanks == other.blanks
            and self.left == other.left
        )
