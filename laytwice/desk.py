"""Desks: commands of a few words, each answered by a text."""

from laytwice.deciding import GOALS, example, goals, reach
from laytwice.errors import InvalidCommand
from laytwice.history import History
from laytwice.programs import Program
from laytwice.running import run
from laytwice.tools import Tool

FIRST_WIDTH = 40
LEAST_WIDTH = 4
GREATEST_WIDTH = 90
MOST_DIGITS = 4


def require(holds):
    """Raise that a value is no command, unless it holds."""
    if not holds:
        raise InvalidCommand()


def words_of(command):
    """The words of a command."""
    require(isinstance(command, str) and "\n" not in command)
    words = command.split(" ")
    require("" not in words)
    return words


def only_one(words):
    """The only one of some words."""
    require(len(words) == 1)
    return words[0]


def number_of(word):
    """The number that a word is."""
    require(word.isascii() and word.isdigit() and len(word) <= MOST_DIGITS)
    require(word == "0" or not word.startswith("0"))
    return int(word)


def row_of(word):
    """The row of a program's text that a word stands for."""
    return "" if word == "-" else word.replace("_", " ")


def rows_of_text(program):
    """The rows of the text of a program; without pieces there is none."""
    return str(program).split("\n") if len(program) > 0 else []


def do_tool(desk, words):
    require(len(words) > 0)
    desk.kept_tool = Tool.read(" ".join(words).replace(" ; ", "\n"))
    return f"{len(desk.kept_tool)} rows"


def do_width(desk, words):
    width = number_of(only_one(words))
    require(LEAST_WIDTH <= width <= GREATEST_WIDTH)
    desk.kept_width = width
    return "done"


def do_program(desk, words):
    program = Program.read("\n".join([row_of(word) for word in words]))
    desk.history.become(program)
    return str(len(program))


def do_run(desk, words):
    require(len(words) == 0)
    before = desk.history.now
    program = run(desk.kept_tool, desk.kept_width, before)
    desk.history.become(program)
    return "same" if program == before else "changed"


def do_row(desk, words):
    number = number_of(only_one(words))
    rows = rows_of_text(desk.history.now)
    return rows[number] if number < len(rows) else "none"


def do_goals(desk, words):
    require(len(words) == 0)
    return " ".join(goals(desk.kept_tool)) or "none"


def do_example(desk, words):
    goal = only_one(words)
    require(goal in GOALS)
    found = example(desk.kept_tool, goal)
    if found is None:
        return "never"
    width, program = found
    return f"{width} by {len(program)}"


def do_reach(desk, words):
    require(len(words) == 0)
    if desk.kept_tool.sorts:
        return "sorts"
    found = reach(desk.kept_tool)
    return "any" if found is None else str(found)


def do_undo(desk, words):
    require(len(words) == 0)
    return "undone" if desk.history.undo() else "nothing"


COMMANDS = {
    "tool": do_tool,
    "width": do_width,
    "program": do_program,
    "run": do_run,
    "row": do_row,
    "goals": do_goals,
    "example": do_example,
    "reach": do_reach,
    "undo": do_undo,
}


class Desk:
    """A tool and a width that are kept, and the program of a sheet, with its history."""

    def __init__(self):
        self.kept_tool = Tool()
        self.kept_width = FIRST_WIDTH
        self.history = History(Program())

    def say(self, command):
        """Do a command, and return the text that answers it."""
        word, *others = words_of(command)
        require(word in COMMANDS)
        action = COMMANDS[word]
        return action(self, others)

    def __len__(self):
        return len(self.history.past)
