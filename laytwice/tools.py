"""Tools, their rows, and how the text of one is read."""

from laytwice.errors import InvalidRow, InvalidTool, NoRow
from laytwice.kinds import is_number, is_sequence

TESTS = (
    "broken", "marked", "left", "ahead", "behind", "blank", "long", "first", "afterbroken", "afterbehind",
)
DEEDS = ("break", "join", "mark", "unmark", "lift", "lower", "space", "close")


def is_test(value):
    """Whether a value is the text of a test, perhaps with one `not`."""
    return isinstance(value, str) and value.removeprefix("not ") in TESTS


def is_deed(value):
    """Whether a value is the word of a deed."""
    return isinstance(value, str) and value in DEEDS


def are_tests(value):
    """Whether a value is a sequence of texts of tests."""
    return is_sequence(value) and all([is_test(one) for one in value])


def are_deeds(value):
    """Whether a value is a sequence of at least one deed."""
    return is_sequence(value) and len(value) > 0 and all([is_deed(one) for one in value])


def are_rows(value):
    """Whether a value is a sequence of rows of a tool."""
    return is_sequence(value) and all([isinstance(one, Row) for one in value])


def row_words(row):
    """What the text of a row consists of."""
    done = ["do", " then ".join(row.deeds)]
    if len(row.tests) == 0:
        return done
    return ["if", " and ".join(row.tests), *done]


def first_line(tool):
    """The line that the text of a tool begins with."""
    return "tool sorts" if tool.sorts else "tool"


def read_row(line, at):
    """The row of a tool that the line with this number is."""
    asked, _, done = line.removeprefix("if ").partition("do ")
    tests = asked.removesuffix(" ").split(" and ") if asked else []
    deeds = done.split(" then ")
    if not are_tests(tests) or not are_deeds(deeds):
        raise InvalidTool(at)
    row = Row(tests, deeds)
    # The reading above does not ask whether an `if` is missing or needless.
    if str(row) != line:
        raise InvalidTool(at)
    return row


class Row:
    """What a tool does with a piece if all tests hold; it never changes."""

    def __init__(self, tests=(), deeds=()):
        if not are_tests(tests):
            raise InvalidRow("tests")
        if not are_deeds(deeds):
            raise InvalidRow("deeds")
        self.tests = tuple(tests)
        self.deeds = tuple(deeds)

    def __eq__(self, other):
        return isinstance(other, Row) and str(self) == str(other)

    def __str__(self):
        return " ".join(row_words(self))


class Tool:
    """Rows that are done for each piece, and whether it sorts; it never changes."""

    def __init__(self, rows=(), sorts=False):
        if not are_rows(rows):
            raise InvalidRow("rows")
        if not isinstance(sorts, bool):
            raise InvalidRow("sorts")
        self.rows = tuple(rows)
        self.sorts = sorts

    @classmethod
    def read(cls, text):
        """The tool with this text."""
        if not isinstance(text, str):
            raise InvalidTool(0)
        first, *lines = text.split("\n")
        if first not in ("tool", "tool sorts"):
            raise InvalidTool(0)
        rows = [read_row(line, at) for at, line in enumerate(lines, start=1)]
        return cls(rows, first == "tool sorts")

    def without(self, at):
        """The tool without the row with this number."""
        if not is_number(at, len(self.rows)):
            raise NoRow(at)
        return Tool(self.rows[:at] + self.rows[at + 1:], self.sorts)

    def __len__(self):
        return len(self.rows)

    def __getitem__(self, at):
        if not is_number(at, len(self.rows)):
            raise NoRow(at)
        return self.rows[at]

    def __iter__(self):
        raise TypeError("a tool is not iterable")

    def __add__(self, other):
        if not isinstance(other, Tool):
            return NotImplemented
        return Tool(self.rows + other.rows, self.sorts)

    def __eq__(self, other):
        return isinstance(other, Tool) and str(self) == str(other)

    def __str__(self):
        return "\n".join([first_line(self), *[str(row) for row in self.rows]])
