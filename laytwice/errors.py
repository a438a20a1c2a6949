"""The errors of the package, each a direct subclass of LayError."""


class LayError(ValueError):
    """What all errors of the package have in common."""


class InvalidPiece(LayError):
    """An argument of a piece is wrong: `word` is its name."""

    def __init__(self, word):
        self.word = word


class InvalidProgram(LayError):
    """A program was given something else than pieces: `at` is its index."""

    def __init__(self, at):
        self.at = at


class InvalidText(LayError):
    """A text is no program: `at` is the number of the row that tells so."""

    def __init__(self, at):
        self.at = at


class InvalidRow(LayError):
    """An argument of a tool or of a row of one is wrong: `part` is its name."""

    def __init__(self, part):
        self.part = part


class InvalidTool(LayError):
    """A text is no tool: `at` is the number of the line that tells so."""

    def __init__(self, at):
        self.at = at


class InvalidGoal(LayError):
    """A value is none of the goals."""


class InvalidCommand(LayError):
    """A value is no command of a desk."""


class Refused(LayError):
    """A question is not answered: `word` tells why."""

    def __init__(self, word):
        self.word = word


class NoPiece(LayError):
    """There is no piece with the number `at`."""

    def __init__(self, at):
        self.at = at


class NoRow(LayError):
    """There is no row with the number `at`."""

    def __init__(self, at):
        self.at = at
