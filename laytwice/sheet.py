"""Sheets: a program that people edit, and a tool; all that is done can be taken back."""

from laytwice.errors import InvalidPiece, NoPiece
from laytwice.history import History
from laytwice.kinds import is_number
from laytwice.pieces import Piece
from laytwice.programs import Program
from laytwice.running import run


def check_place(at, many):
    """Raise that there is no piece with a number, unless it is one of so many."""
    if not is_number(at, many):
        raise NoPiece(at)


def check_piece(value):
    """Raise that a value is no piece, unless it is one."""
    if not isinstance(value, Piece):
        raise InvalidPiece("piece")


class Trial:
    """A block behind which a sheet is as it was when the block was entered."""

    def __init__(self, sheet):
        self.sheet = sheet
        self.history = sheet.history
        self.now = ()
        self.past = ()

    def __enter__(self):
        self.now = self.history.now
        self.past = self.history.past
        return self.sheet

    def __exit__(self, kind, value, trace):
        history = self.history
        history.now = self.now
        history.past = self.past


class Sheet:
    """A program and a tool at a width; the history is that of pairs of both."""

    def __init__(self, tool, width, program):
        self.width = width
        self.history = History((program, tool))

    @property
    def program(self):
        """The program as it is now."""
        return self.history.now[0]

    @property
    def tool(self):
        """The tool that the sheet runs with."""
        return self.history.now[1]

    @tool.setter
    def tool(self, value):
        self.use(value)

    def rewrite(self, program):
        """Have another program, by a deed that can be taken back."""
        self.history.become((program, self.tool))

    def exchange(self, start, end, pieces):
        """Put these pieces in the place of those from one number up to another one."""
        old = self.program.pieces
        self.rewrite(Program([*old[:start], *pieces, *old[end:]]))

    def put(self, at, piece):
        """Put a piece ahead of the one with this number, or at the end."""
        check_place(at, len(self.program) + 1)
        check_piece(piece)
        self.exchange(at, at, [piece])

    def take(self, at):
        """Take the piece with this number out, and return it."""
        piece = self.program[at]
        self.exchange(at, at + 1, [])
        return piece

    def change(self, at, piece):
        """Put another piece in the place of the one with this number."""
        check_place(at, len(self.program))
        check_piece(piece)
        self.exchange(at, at + 1, [piece])

    def run(self):
        """Run the tool, and tell whether this changed the program."""
        before = self.program
        self.rewrite(run(self.tool, self.width, before))
        return self.program != before

    def use(self, tool):
        """Have another tool, by a deed that can be taken back."""
        self.history.become((self.program, tool))

    def undo(self):
        """Take the last deed back, and tell whether there was one."""
        return self.history.undo()

    def trial(self):
        """A context manager for a block behind which the sheet is as it was."""
        return Trial(self)

    def within(self, work):
        """What `work(sheet)` returns; behind it, the sheet is as it was."""
        with self.trial():
            return work(self)

    def __len__(self):
        return len(self.history.past)
