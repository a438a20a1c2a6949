"""Programs, and how the text of one is read."""

from laytwice.errors import InvalidProgram, InvalidText, NoPiece
from laytwice.kinds import are_names, is_name, is_number, is_sequence
from laytwice.pieces import Piece, rows_of


def check_pieces(value):
    """Raise which thing is no piece, unless the value is a sequence of pieces."""
    if not is_sequence(value):
        raise InvalidProgram(0)
    for at, one in enumerate(value):
        if not isinstance(one, Piece):
            raise InvalidProgram(at)


def row_at(rows, at):
    """The row with this number; behind the last one, the text ends too early."""
    if at == len(rows):
        raise InvalidText(at)
    return rows[at]


def read_blanks(rows, at):
    """How many blank rows a piece begins with; a third one is none of its rows."""
    blanks = 0
    while blanks < 2 and row_at(rows, at + blanks) == "":
        blanks += 1
    return blanks


def read_ahead(rows, at):
    """The remark that the row is, or "" if it is no remark."""
    row = row_at(rows, at)
    if not row.startswith("# "):
        return ""
    remark = row.removeprefix("# ")
    if not is_name(remark):
        raise InvalidText(at)
    return remark


def read_head(rows, at):
    """The word of a piece, whether it is left, and what its row has behind the parenthesis."""
    row = row_at(rows, at)
    word, paren, rest = row.removeprefix("!").partition("(")
    if paren == "" or not is_name(word):
        raise InvalidText(at)
    return word, row.startswith("!"), rest


def split_remark(text, at):
    """What stands ahead of a remark behind, and the remark, or "" for none."""
    body, sign, remark = text.partition("  # ")
    if sign != "" and not is_name(remark):
        raise InvalidText(at)
    return body, remark


def read_flat(rest, at):
    """The items, the mark and the remark behind of a piece in one row, and the number of the next row."""
    body, behind = split_remark(rest, at)
    inside = body.removesuffix(")")
    parts = inside.removesuffix(",").split(", ")
    if not body.endswith(")") or not are_names(parts):
        raise InvalidText(at)
    return parts, inside.endswith(","), behind, at + 1


def read_item(rows, at):
    """The item that the row is, and whether there is a comma behind it."""
    row = row_at(rows, at)
    part = row.removeprefix("  ").removesuffix(",")
    if not row.startswith("  ") or not is_name(part):
        raise InvalidText(at)
    return part, row.endswith(",")


def read_broken(rows, at):
    """What read_flat tells, of a broken piece, from the row behind its first one."""
    part, comma = read_item(rows, at)
    parts = [part]
    # Only a comma lets another item follow; behind the last item it is the mark.
    while comma and row_at(rows, at + len(parts)).startswith("  "):
        part, comma = read_item(rows, at + len(parts))
        parts.append(part)
    end = at + len(parts)
    body, behind = split_remark(row_at(rows, end), end)
    if body != ")":
        raise InvalidText(end)
    return parts, comma, behind, end + 1


def read_piece(rows, at):
    """The piece whose rows begin here, and the number of the row behind them."""
    blanks = read_blanks(rows, at)
    start = at + blanks
    ahead = read_ahead(rows, start)
    if ahead != "":
        start += 1
    word, left, rest = read_head(rows, start)
    broken = rest == ""
    if broken:
        parts, marked, behind, end = read_broken(rows, start + 1)
    else:
        parts, marked, behind, end = read_flat(rest, start)
    return Piece(word, parts, broken, marked, ahead, behind, blanks, left), end


def read_pieces(rows):
    """The pieces that these rows are the text of."""
    pieces = []
    at = 0
    while at < len(rows):
        piece, at = read_piece(rows, at)
        pieces.append(piece)
    return pieces


class Program:
    """A row of pieces; it never changes."""

    def __init__(self, pieces=()):
        check_pieces(pieces)
        self.pieces = tuple(pieces)

    @classmethod
    def read(cls, text):
        """The program with this text."""
        if not isinstance(text, str):
            raise InvalidText(0)
        if text == "":
            return cls()
        return cls(read_pieces(text.split("\n")))

    def __len__(self):
        return len(self.pieces)

    def __getitem__(self, at):
        if not is_number(at, len(self.pieces)):
            raise NoPiece(at)
        return self.pieces[at]

    def __iter__(self):
        raise TypeError("a program is not iterable")

    def __add__(self, other):
        if not isinstance(other, Program):
            return NotImplemented
        return Program(self.pieces + other.pieces)

    def __eq__(self, other):
        return isinstance(other, Program) and str(self) == str(other)

    def __str__(self):
        return "\n".join([row for piece in self.pieces for row in rows_of(piece)])
