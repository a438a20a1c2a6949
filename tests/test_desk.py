"""[25] and [26]: desks; [2] as far as these show it."""

import random
import unittest

from laytwice.deciding import example, goals, reach
from laytwice.desk import Desk
from laytwice.errors import InvalidCommand, InvalidText, InvalidTool, LayError
from laytwice.programs import Program
from laytwice.running import run
from laytwice.sheet import Sheet
from laytwice.tools import Tool
from tests import plain
from tests.samples import Foreign, any_values

ROWS = "program call(ab,_cd) - #_up !a(b,)__#_x - - c( __d, __e )"
TEXT = "call(ab, cd)\n\n# up\n!a(b,)  # x\n\n\nc(\n  d,\n  e\n)"


def said(desk, *commands):
    return [desk.say(command) for command in commands]


def rows_of(desk):
    """The rows of the desk's program, as it tells them."""
    found = []
    while desk.say(f"row {len(found)}") != "none":
        found.append(desk.say(f"row {len(found)}"))
    return found


def state(desk):
    """What a desk tells of what it keeps; a trial run tells of the width."""
    told = said(desk, "goals", "reach", *[f"example {goal}" for goal in plain.GOALS])
    return rows_of(desk), len(desk), told, rows_behind_run(desk)


def rows_behind_run(desk):
    desk.say("run")
    found = rows_of(desk)
    desk.say("undo")
    return found


def as_command(text):
    """The words that tell a text's rows."""
    return [row.replace(" ", "_") if row else "-" for row in text.split("\n")]


class DeskTest(unittest.TestCase):
    def test_example_of_the_document(self):
        desk = Desk()
        found = [desk.say(word) for word in (
            "tool tool ; if long do break", "width 8", "program - a(b)", "program call(ab,_cd) - a(b)__#_x", "run",
            "row 0", "run", "goals",
        )]
        self.assertEqual(found, ["1 rows", "done", "1", "2", "changed", "call(", "same", "none"])

    def test_what_is_kept_at_first(self):
        desk = Desk()
        self.assertEqual(said(desk, "row 0", "goals", "reach", "undo"), ["none", "over", "0", "nothing"])
        self.assertEqual(said(desk, *[f"example {goal}" for goal in plain.GOALS])[:2], ["never", "never"])
        self.assertEqual(len(desk), 0)
        # The tool at first changes nothing, whatever the width.
        self.assertEqual(said(desk, "program call(a,_b,)", "run"), ["1", "same"])

    def test_the_width_at_first(self):
        desk = Desk()
        desk.say("tool tool ; if long do break")
        forty = "abcdef(" + ", ".join(["abcdef"] * 4 + ["ab"]) + ")"
        self.assertEqual(len(forty), 42)
        for cut, answer in ((0, "changed"), (1, "changed"), (2, "same"), (3, "same")):
            row = forty[cut:].replace(" ", "_")
            self.assertEqual(said(desk, f"program {row}", "run"), ["1", answer], cut)

    def test_say_by_name(self):
        self.assertEqual(Desk().say(command="goals"), "over")

    def test_answers_are_texts(self):
        desk = Desk()
        for command in ("tool tool ; do close", "width 4", ROWS, "run", "row 1", "row 3", "row 99", "goals",
                        "example over", "example order", "reach", "undo", "program"):
            self.assertIs(type(desk.say(command)), str)
        self.assertIs(type(len(desk)), int)

    def test_it_is_not_iterable(self):
        for asked in (iter, list, lambda value: 0 in value):
            with self.assertRaises(TypeError):
                asked(Desk())

    def test_desks_do_not_share_anything(self):
        one, other = Desk(), Desk()
        said(one, "tool tool ; do mark", "width 5", "program a(b)", "run")
        self.assertEqual((state(other), len(one)), (state(Desk()), 2))


class ToolTest(unittest.TestCase):
    def test_kept(self):
        desk = Desk()
        self.assertEqual(said(desk, "tool tool", "tool tool sorts", "tool tool ; do mark"), ["0 rows", "0 rows", "1 rows"])
        self.assertEqual(desk.say("tool tool sorts ; if long and not left do break then mark ; do close"), "2 rows")
        self.assertEqual(said(desk, "goals", "reach"), ["again order over", "sorts"])
        self.assertEqual(len(desk), 0)

    def test_newlines(self):
        for text in ("tool", "tool sorts", "tool\ndo mark", "tool\n" + "\n".join(["if not first do join then lift"] * 9)):
            desk = Desk()
            self.assertEqual(desk.say("tool " + text.replace("\n", " ; ")), f"{len(Tool.read(text))} rows")
            self.assertEqual(desk.say("goals"), " ".join(goals(Tool.read(text))) or "none")

    def test_one_behind_another(self):
        """Replaced from left to right, the second sign of two has no blank of its own ahead of it."""
        for words, at in (
            ("tool ; ; do mark", 1), ("tool ; ; ; do mark", 1), ("tool ; do mark ; ; do mark", 2), ("tool ;", 0),
            ("tool ; ;", 1), (";", 0), ("; tool", 0), ("; ; tool", 0), ("tool ; do mark ;", 1), ("tool;", 0),
            ("tool; do mark", 0), ("tool ;do mark", 0), ("tool ;; do mark", 0), ("tool ; ;; do mark", 1),
            ("tool sorts ; ;", 1), ("tool ; ; ;", 1),
        ):
            with self.assertRaises(InvalidTool) as caught:
                Desk().say("tool " + words)
            self.assertEqual(caught.exception.at, at, words)

    def test_errors_of_the_text(self):
        for words, at in (
            ("a", 0), ("do mark", 0), ("tools", 0), ("tool sort", 0), ("tool sorts sorts", 0), ("sorts", 0),
            ("tool ; mark", 1), ("tool ; do", 1), ("tool ; if long break", 1), ("tool ; do mark ; if do mark", 2),
            ("tool ; do_mark", 1), ("tool ; do mark ; tool", 2), ("tool ; do mark, break", 1), ("tool ; -", 1), ("-", 0),
        ):
            desk = Desk()
            said(desk, "tool tool sorts ; do close", "width 9", ROWS, "run")
            before = state(desk)
            with self.assertRaises(InvalidTool) as caught:
                desk.say("tool " + words)
            self.assertEqual(caught.exception.at, at, words)
            self.assertEqual(state(desk), before)


class WidthTest(unittest.TestCase):
    def test_all(self):
        desk = Desk()
        said(desk, "tool tool ; do join ; if long do break", "program abc(de)__#_f")
        for width in range(4, 91):
            self.assertEqual(desk.say(f"width {width}"), "done")
            self.assertEqual(desk.say("run"), "changed" if width in (4, 12) else "same", width)
        self.assertEqual(len(desk), 88)

    def test_others(self):
        for word in ("3", "91", "0", "1", "2", "100", "400", "9999", "10000", "04", "09", "040", "-4", "+4", "4.0", "4,",
                     "a", "four", "4_0", "0x4", "\u0664", "\u00b2\u00b2", "4\t", "\t4", "4\r"):
            desk = Desk()
            said(desk, "tool tool ; if long do break", "width 9", "program call(a,_b)")
            before = state(desk)
            with self.assertRaises(InvalidCommand):
                desk.say(f"width {word}")
            self.assertEqual(state(desk), before)


class ProgramTest(unittest.TestCase):
    def test_rows(self):
        desk = Desk()
        self.assertEqual(desk.say(ROWS), "3")
        self.assertEqual("\n".join(rows_of(desk)), TEXT)
        self.assertEqual(desk.say("row 1"), "")
        self.assertEqual(desk.say("row 7"), "  d,")

    def test_no_pieces(self):
        for command in ("program", "program -"):
            desk = Desk()
            self.assertEqual(said(desk, command, "row 0", "run"), ["0", "none", "same"])
            self.assertEqual(said(desk, "program a(b)", command, "row 0", "undo", "row 0"),
                             ["1", "0", "none", "undone", "a(b)"])

    def test_by_chance(self):
        chance = random.Random(95)
        for _ in range(80):
            program = plain.some_program(chance)
            desk = Desk()
            self.assertEqual(desk.say(" ".join(["program", *as_command(str(program))])), str(len(program)))
            self.assertEqual("\n".join(rows_of(desk)), str(program))

    def test_errors_of_the_text(self):
        for words, at in (
            ("a", 0), ("a()", 0), ("a(b) c", 1), ("a(b) -", 2), ("- -", 2), ("- - -", 2), ("- - - a(b)", 2), ("a(b) - -", 3),
            ("a(b", 0), ("a(b,c)", 0), ("a(b,_c) a(b,__c)", 1), ("#_x", 1), ("a(", 1), ("a( __b", 2), ("a( __b,", 2),
            ("a( -", 1), ("_", 0), ("__", 0), ("_ a(b)", 0), ("--", 0), ("a(b) --", 1), ("-a(b)", 0), ("a(b)_", 0),
            ("a(b) ; c(d)", 1), ("A(b)", 0), ("a(b)_#_x", 0), ("a(b)__#_x_", 0), ("a(b)\t", 0), ("a(b)\r", 0),
            ("none", 0), ("a(b) a(b) - - - a(b)", 4),
        ):
            desk = Desk()
            said(desk, "tool tool ; do mark", "program c(d)", "run", "width 4")
            before = state(desk)
            with self.assertRaises(InvalidText) as caught:
                desk.say("program " + words)
            self.assertEqual(caught.exception.at, at, words)
            self.assertEqual(state(desk), before)

    def test_row_numbers(self):
        desk = Desk()
        desk.say(ROWS)
        rows = TEXT.split("\n")
        self.assertEqual(said(desk, *[f"row {at}" for at in range(12)]), rows + ["none"] * (12 - len(rows)))
        self.assertEqual(said(desk, "row 10", "row 99", "row 9999"), ["none"] * 3)
        desk.say("program " + " ".join(["a(b)"] * 30))
        self.assertEqual(said(desk, "row 0", "row 29", "row 30"), ["a(b)", "a(b)", "none"])
        for word in ("10000", "00", "01", "-1", "+1", "", "1.", "a", "00000", "_", "-", "\u0661", "1_0", "0 "):
            with self.assertRaises(InvalidCommand):
                desk.say(f"row {word}")

    def test_row_tells_the_text_behind_a_run(self):
        desk = Desk()
        said(desk, "tool tool sorts ; if long do break then mark", "width 6", "program b(xx,_y) a(z)")
        self.assertEqual(said(desk, "run", "row 0", "row 1", "row 2", "row 3"), ["changed", "a(z)", "b(", "  xx,", "  y,"])
        self.assertEqual(rows_of(desk), ["a(z)", "b(", "  xx,", "  y,", ")"])


class RunTest(unittest.TestCase):
    def test_changed_and_same(self):
        desk = Desk()
        said(desk, "tool tool ; if marked do break ; if long do mark", "width 9", "program call(alpha)")
        self.assertEqual(said(desk, "run", "run", "run", "run"), ["changed", "changed", "same", "same"])
        self.assertEqual(len(desk), 5)

    def test_with_the_tool_and_the_width_that_are_kept(self):
        desk = Desk()
        said(desk, "program call(alpha)", "tool tool ; if long do break", "width 9")
        self.assertEqual(said(desk, "run", "row 0"), ["changed", "call("])
        self.assertEqual(said(desk, "tool tool ; if not long do join", "run"), ["1 rows", "same"])
        self.assertEqual(said(desk, "width 11", "run", "row 0"), ["done", "changed", "call(alpha)"])
        self.assertEqual(said(desk, "tool tool ; do space", "program a(b)", "run", "row 0", "row 1"),
                         ["1 rows", "1", "changed", "", "a(b)"])

    def test_as_the_functions_and_sheets_do(self):
        chance = random.Random(96)
        for tool in plain.some_tools(60, 97, 6):
            program, width, desk = plain.some_program(chance, 5), chance.randint(4, 16), Desk()
            sheet = Sheet(tool, width, program)
            said(desk, "tool " + str(tool).replace("\n", " ; "), f"width {width}",
                 " ".join(["program", *as_command(str(program))]))
            for _ in range(3):
                program = run(tool, width, program)
                self.assertEqual(desk.say("run"), "changed" if sheet.run() else "same")
                self.assertEqual("\n".join(rows_of(desk)), str(program))
                self.assertEqual(sheet.program, program)


class DecidingTest(unittest.TestCase):
    def test_known(self):
        for text, told in (
            ("tool", ["over", "never", "never", "1", "never", "0"]),
            ("tool sorts", ["over", "never", "never", "1", "never", "sorts"]),
            ("tool ; do break", ["none", "never", "never", "never", "never", "0"]),
            ("tool ; if marked do break ; if long do mark", ["again over", "1", "never", "1", "never", "0"]),
            ("tool sorts ; do close", ["again order over", "2", "2", "1", "never", "sorts"]),
            ("tool ; if afterbehind do break", ["over", "never", "never", "1", "never", "1"]),
            ("tool ; if afterbroken do break", ["over", "never", "never", "1", "never", "any"]),
            ("tool ; do break ; if marked do lift ; do mark", ["again wander", "1", "never", "never", "1", "0"]),
            ("tool ; if first and long do break", ["over", "never", "never", "2", "never", "0"]),
        ):
            desk = Desk()
            desk.say("tool " + text)
            found = said(desk, "goals", *[f"example {goal}" for goal in plain.GOALS], "reach")
            counts = [one if one == "never" else one.split(" by ")[1] for one in found[1:5]]
            self.assertEqual([found[0], *counts, found[5]], told, text)
            self.assertEqual(len(desk), 0)

    def test_as_the_functions_do(self):
        for tool in [*plain.DEEP, *plain.some_tools(30, 98, 7)]:
            desk = Desk()
            desk.say("tool " + str(tool).replace("\n", " ; "))
            self.assertEqual(desk.say("goals"), " ".join(goals(tool)) or "none")
            for goal in plain.GOALS:
                found = example(tool, goal)
                expected = "never" if found is None else f"{found[0]} by {len(found[1])}"
                self.assertEqual(desk.say(f"example {goal}"), expected)
            if tool.sorts:
                self.assertEqual(desk.say("reach"), "sorts")
            else:
                self.assertEqual(desk.say("reach"), {None: "any"}.get(reach(tool), str(reach(tool))))

    def test_no_goals(self):
        for word in ("Again", "again;", "again,", "goals", "none", "0", "-", "againn", "agai", "not", "over.", "\tover"):
            with self.assertRaises(InvalidCommand):
                Desk().say(f"example {word}")


class UndoTest(unittest.TestCase):
    def test_program_and_run(self):
        desk = Desk()
        self.assertEqual(said(desk, "undo", "program a(b)", "tool tool ; do mark", "run", "run"),
                         ["nothing", "1", "1 rows", "changed", "same"])
        self.assertEqual((len(desk), desk.say("row 0")), (3, "a(b,)"))
        self.assertEqual((desk.say("undo"), len(desk), desk.say("row 0")), ("undone", 2, "a(b,)"))
        self.assertEqual((desk.say("undo"), len(desk), desk.say("row 0")), ("undone", 1, "a(b)"))
        self.assertEqual((desk.say("undo"), len(desk), desk.say("row 0")), ("undone", 0, "none"))
        self.assertEqual((desk.say("undo"), len(desk), desk.say("row 0")), ("nothing", 0, "none"))

    def test_across_programs(self):
        desk = Desk()
        said(desk, "tool tool ; do mark", "program a(b)", "run", "program c(d) e(f)", "run", "program")
        self.assertEqual(len(desk), 5)
        found = []
        for _ in range(6):
            found.append((desk.say("undo"), *rows_of(desk)))
        self.assertEqual(found, [
            ("undone", "c(d,)", "e(f,)"), ("undone", "c(d)", "e(f)"), ("undone", "a(b,)"), ("undone", "a(b)"), ("undone",),
            ("nothing",),
        ])

    def test_tool_and_width_are_not_taken_back(self):
        desk = Desk()
        said(desk, "program call(a)", "tool tool ; if long do break", "width 6", "undo")
        self.assertEqual(said(desk, "undo", "goals", "program call(a)", "run"), ["nothing", "none", "1", "changed"])

    def test_the_same_program_twice(self):
        desk = Desk()
        said(desk, "program a(b)", "program a(b)", "program", "program", "run")
        self.assertEqual(len(desk), 5)
        self.assertEqual(said(desk, *["undo"] * 6), ["undone"] * 5 + ["nothing"])

    def test_other_commands_do_not_count(self):
        desk = Desk()
        said(desk, "program a(b)")
        said(desk, "tool tool", "width 50", "row 0", "goals", "example over", "reach")
        self.assertEqual(len(desk), 1)
        for wrong in ("program a", "run x", "tool x", "undo undo", None):
            with self.assertRaises(LayError):
                desk.say(wrong)
        self.assertEqual((len(desk), desk.say("row 0")), (1, "a(b)"))
        self.assertEqual(said(desk, "undo", "undo", "row 0"), ["undone", "nothing", "none"])

    def test_done_again(self):
        desk = Desk()
        said(desk, "tool tool ; do break", "program a(b)", "run", "undo", "program c(d)", "undo", "run")
        self.assertEqual((rows_of(desk), len(desk)), (["a(", "  b", ")"], 2))

    def test_beyond_the_limits(self):
        desk = Desk()
        for _ in range(99):
            desk.say("run")
        self.assertEqual(len(desk), 99)


class NoCommandTest(unittest.TestCase):
    def wrong(self, value):
        desk = Desk()
        said(desk, "tool tool sorts ; if long do break", "width 6", "program b(c,_d) a(e)", "run")
        before = state(desk)
        with self.assertRaises(InvalidCommand) as caught:
            desk.say(value)
        self.assertIs(type(caught.exception), InvalidCommand)
        self.assertEqual(state(desk), before, repr(value))

    def test_any_value(self):
        for value in [*any_values(), Desk(), b"run", ["run"], ("run",), 1.5, Foreign(), {"run": 1}]:
            self.wrong(value)

    def test_other_words(self):
        for value in ("runs", "Run", "RUN", "r", "again", "sheet", "len", "tools", "put", "none", "-", ";", "Tool tool",
                      "undone", "row0", "width4", "width=4", "run;", "goals,", "programs a(b)", "_", "run\t", "\trun",
                      "run\u00a0", "tool\ttool"):
            self.wrong(value)

    def test_a_word_less(self):
        for value in ("tool", "width", "row", "example"):
            self.wrong(value)

    def test_a_word_more(self):
        for value in ("width 4 4", "width 4 -", "run run", "run 1", "row 0 0", "row 0 none", "goals again", "goals -",
                      "example over over", "example over again", "reach 0", "undo 1", "undo undo", "run ;"):
            self.wrong(value)

    def test_empty_words(self):
        self.wrong("")
        self.wrong(" ")
        self.wrong("  ")
        for command in ("tool tool ; do mark", "width 4", "program a(b) - c(d)", "program", "run", "row 0", "goals",
                        "example over", "reach", "undo"):
            for value in (" " + command, command + " ", "  " + command, command + "  "):
                self.wrong(value)
            for at, sign in enumerate(command):
                if sign == " ":
                    self.wrong(command[:at] + " " + command[at:])

    def test_newlines(self):
        for command in ("tool tool ; do mark", "width 4", "program a(b) - c(d)", "program", "run", "row 0", "goals",
                        "example over", "reach", "undo"):
            for at in range(len(command) + 1):
                self.wrong(command[:at] + "\n" + command[at:])
            self.wrong(command.replace(" ", "\n", 1) if " " in command else command + "\n")
        self.wrong("tool tool\ndo mark")
        self.wrong("program a(b)\nc(d)")
        self.wrong("\n")

    def test_ahead_of_the_errors_of_texts(self):
        for value in ("tool  x", "tool x ", "tool x\n", "program  a", "program a ", "program a\n", "program - - - "):
            self.wrong(value)


class ChanceTest(unittest.TestCase):
    """Many commands in a row, against a list of all that the program has been."""

    def test_by_chance(self):
        chance = random.Random(99)
        for _ in range(25):
            desk, tool, width, model = Desk(), Tool(), 40, [Program()]
            for _ in range(30):
                number = chance.randrange(5)
                if number == 0:
                    tool = plain.some_tool(chance)
                    self.assertEqual(desk.say("tool " + str(tool).replace("\n", " ; ")), f"{len(tool)} rows")
                elif number == 1:
                    width = chance.randint(4, 20)
                    self.assertEqual(desk.say(f"width {width}"), "done")
                elif number == 2:
                    program = plain.some_program(chance, 3)
                    model.append(program)
                    self.assertEqual(desk.say(" ".join(["program", *as_command(str(program))])), str(len(program)))
                elif number == 3:
                    model.append(plain.run(tool, width, model[-1]))
                    self.assertEqual(desk.say("run"), "same" if model[-1] == model[-2] else "changed")
                else:
                    self.assertEqual(desk.say("undo"), "undone" if len(model) > 1 else "nothing")
                    model = model[:-1] or model
                self.assertEqual(("\n".join(rows_of(desk)), len(desk)), (str(model[-1]), len(model) - 1))
