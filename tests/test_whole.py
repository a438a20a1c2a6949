"""What holds over the whole program: [2], [3], [5], and what its parts say of one another."""

import itertools
import random
import unittest

from laytwice import errors
from laytwice.comparing import alike, commute, crossing, parting
from laytwice.deciding import comes, example, goals, happens, reach
from laytwice.desk import Desk
from laytwice.forms import FORMS, form_of, lay
from laytwice.mending import idle, needless, repairs
from laytwice.papers import paper, paper_holds
from laytwice.pieces import Piece
from laytwice.programs import Program
from laytwice.running import run, runs
from laytwice.sheet import Sheet
from laytwice.tools import Row, Tool
from tests import plain
from tests.samples import any_values, piece

HASTY = Tool.read("tool\nif marked do break\nif long do mark\nif left and not left do join")
SORTER = Tool.read("tool sorts\ndo close")


def shown(value):
    """A value as a text, with the objects in it as their texts."""
    if isinstance(value, (list, tuple)):
        return type(value).__name__, [shown(one) for one in value]
    if isinstance(value, (Program, Tool, Row)):
        return type(value).__name__, str(value)
    if isinstance(value, Piece):
        return "Piece", [shown(one) for _, one in sorted(vars(value).items())]
    return type(value).__name__, repr(value)


def all_calls(one, other, width, program):
    """All that can be asked about two tools, a width and a program; the first tool does not sort."""
    calls = [(run, (one, width, program)), (run, (other, width, program)), (runs, (other, width, program, 4))]
    calls += [(form_of, (each, width)) for each in program.pieces[:2]]
    calls += [(lay, (one, (True, False), FORMS[7])), (reach, (one,)), (goals, (one,)), (goals, (other,))]
    calls += [(asked, (other, goal)) for asked in (happens, example, paper) for goal in plain.GOALS]
    calls += [(comes, (one, at)) for at in range(len(one))]
    calls += [(alike, (one, other)), (parting, (one, other)), (parting, (other, one)), (parting, (one, Tool(other.rows)))]
    calls += [(commute, (one, Tool(other.rows))), (crossing, (one, Tool(other.rows)))]
    calls += [(asked, (one, ["over", "again"])) for asked in (needless, repairs)] + [(idle, (other,))]
    return calls


class AgreeTest(unittest.TestCase):
    """What is told at one place holds at the others."""

    def alike_pairs(self):
        found = []
        for tool in [HASTY, SORTER, *plain.DEEP, *plain.some_tools(40, 101, 7)]:
            found += [(tool, tool.without(at)) for at in idle(tool)]
            found += [(tool, Tool([row for row in tool.rows for _ in range(2)], tool.sorts))]
        return [(one, other) for one, other in found if alike(one, other)]

    def test_tools_that_are_alike_decide_alike(self):
        pairs = self.alike_pairs()
        self.assertGreater(len(pairs), 40)
        for one, other in pairs:
            self.assertEqual(goals(one), goals(other), (str(one), str(other)))
            self.assertTrue(alike(other, one))
            if not one.sorts:
                self.assertEqual(reach(one), reach(other))
                self.assertTrue(commute(one, other))
            for goal in plain.GOALS:
                found, expected = example(other, goal), example(one, goal)
                self.assertIs(happens(one, goal), happens(other, goal))
                if expected is None:
                    self.assertIsNone(found)
                    self.assertTrue(paper_holds(other, goal, paper(one, goal)))
                else:
                    self.assertEqual(len(found[1]), len(expected[1]))
                    self.assertTrue(plain.meets(one, goal, *found))

    def test_the_promise_of_the_whole(self):
        for tool in [HASTY, SORTER, *plain.DEEP, *plain.some_tools(40, 102, 8)]:
            for goal in plain.GOALS:
                found, table = example(tool, goal), paper(tool, goal)
                self.assertIs(found is None, table is not None)
                self.assertIs(goal in goals(tool), found is not None)
                if found is None:
                    self.assertTrue(paper_holds(tool, goal, table))
                else:
                    self.assertTrue(plain.meets(tool, goal, *found))
                    for at in range(len(found[1])):
                        shorter = Program(found[1].pieces[:at])
                        self.assertFalse(plain.meets(tool, goal, found[0], shorter), (str(tool), goal))

    def test_examples_in_a_sheet(self):
        for tool in [HASTY, SORTER, *plain.DEEP, *plain.some_tools(30, 103, 6)]:
            found = example(tool, "again")
            if found is not None:
                sheet = Sheet(tool, *found)
                sheet.run()
                self.assertIs(sheet.run(), True, str(tool))
            found = example(tool, "over")
            if found is not None:
                sheet = Sheet(tool, *found)
                sheet.run()
                self.assertTrue(any(not one.broken and plain.is_long(form_of(one, found[0])) for one in sheet.program.pieces))

    def test_partings_in_a_sheet(self):
        tools = [HASTY, SORTER, *plain.DEEP[:4], *plain.some_tools(8, 104, 5)]
        for one, other in itertools.combinations(tools, 2):
            found = parting(one, other)
            if found is not None:
                sheets = [Sheet(tool, *found) for tool in (one, other)]
                for sheet in sheets:
                    sheet.run()
                self.assertNotEqual(sheets[0].program, sheets[1].program)
            if not one.sorts and not other.sorts and crossing(one, other) is not None:
                width, program = crossing(one, other)
                behind = []
                for first, second in ((one, other), (other, one)):
                    sheet = Sheet(first, width, program)
                    sheet.run()
                    sheet.use(second)
                    sheet.run()
                    behind.append(sheet.program)
                self.assertNotEqual(*behind)

    def test_a_tool_that_is_at_rest_alike_to_two_runs_of_it(self):
        """Without sorting, a second run changes nothing just if it does not matter that there is one."""
        for tool in plain.some_tools(60, 105, 5):
            tool = Tool(tool.rows)
            found = example(tool, "again")
            if found is None:
                self.assertFalse(happens(tool, "wander"))
                self.assertEqual(needless(tool, ["wander", "order"]), tuple(
                    at for at in range(len(tool)) if not happens(tool.without(at), "wander")
                ))
            else:
                first, second = runs(tool, *found, 2)
                self.assertNotEqual(first, second)

    def test_what_was_returned_may_be_passed_on(self):
        for tool in plain.DEEP:
            for goal in goals(tool):
                width, program = example(tool, goal)
                sheet = Sheet(tool, width, program)
                sheet.put(len(program), program[0])
                sheet.run()
                self.assertEqual(Program.read(str(sheet.program)), sheet.program)
                desk = Desk()
                rows = [row.replace(" ", "_") or "-" for row in str(program).split("\n")]
                self.assertEqual(desk.say(" ".join(["program", *rows])), str(len(program)))
            self.assertEqual(needless(tool, goals(tool)), needless(tool, list(goals(tool))))
            self.assertEqual(repairs(tool, goals(tool) * 5), repairs(tool, goals(tool)))


class UnchangedTest(unittest.TestCase):
    def test_the_same_call_gives_the_same_whatever_was_called_in_between(self):
        chance = random.Random(106)
        calls = []
        for other in [SORTER, *plain.some_tools(8, 107, 5)]:
            one = Tool(plain.some_tool(chance, 5).rows)
            calls += all_calls(one, other, chance.randint(4, 16), plain.some_program(chance, 5))
        texts = [shown(arguments) for _, arguments in calls]
        first = [shown(asked(*arguments)) for asked, arguments in calls]
        order = list(range(len(calls)))
        chance.shuffle(order)
        for at in order:
            asked, arguments = calls[at]
            self.assertEqual(shown(asked(*arguments)), first[at], asked)
        self.assertEqual([shown(arguments) for _, arguments in calls], texts)

    def test_later_changes_to_an_argument(self):
        parts, pieces, tests, deeds = ["b", "c"], [piece()], ["long"], ["break"]
        one, program, row = Piece("a", parts), Program(pieces), Row(tests, deeds)
        rows = [row]
        tool = Tool(rows)
        wanted = ["over"]
        found = needless(tool, wanted)
        sheet = Sheet(tool, 9, program)
        for given in (parts, pieces, tests, deeds, rows, wanted):
            given.clear()
        self.assertEqual((one.parts, len(program), str(row), len(tool), found), (("b", "c"), 1, "if long do break", 1, ()))
        self.assertEqual((str(sheet.program), len(sheet.tool)), ("a(b)", 1))

    def test_operators_in_place(self):
        program, tool = Program([piece()]), Tool([Row([], ["mark"])])
        same_program, same_tool = program, tool
        program += program
        tool += tool
        self.assertEqual((len(program), len(same_program), len(tool), len(same_tool)), (2, 1, 2, 1))

    def test_sequences_are_tuples(self):
        tool, program = Tool([Row(["long"], ["break"])]), Program([piece(behind="x")])
        for found in (piece().parts, program.pieces, tool.rows, tool[0].tests, tool[0].deeds, goals(tool), FORMS,
                      runs(tool, 9, program, 3), form_of(piece(), 9), lay(tool, (), FORMS[0]), example(tool, "over") or (),
                      paper(tool, "order"), parting(tool, Tool()), crossing(tool, Tool([Row([], ["mark"])])),
                      needless(tool, []), repairs(tool, []), idle(tool)):
            self.assertIs(type(found), tuple)

    def test_lists_where_sequences_are_expected(self):
        self.assertEqual(Piece("a", ["b", "c"]), Piece("a", ("b", "c")))
        self.assertEqual(Row(["long"], ["break"]), Row(("long",), ("break",)))
        self.assertEqual(Tool([HASTY[0]]), Tool((HASTY[0],)))
        self.assertEqual(Program([piece()]), Program((piece(),)))
        self.assertEqual(needless(HASTY, ["over"]), needless(HASTY, ("over",)))
        self.assertEqual(repairs(HASTY, ["over"]), repairs(HASTY, ("over",)))

    def test_no_object_is_iterable(self):
        sheet = Sheet(HASTY, 9, Program())
        for one in (piece(), Program([piece()]), HASTY, HASTY[0], sheet, sheet.trial(), Desk(), errors.NoRow(3)):
            for asked in (iter, list, tuple, lambda value: [*value], lambda value: 3 in value):
                with self.assertRaises(TypeError):
                    asked(one)

    def test_equal_to_no_object_of_another_class(self):
        objects = [piece(), Program([piece()]), Program(), HASTY[0], Tool([HASTY[0]]), Tool()]
        for at, one in enumerate(objects):
            for number, other in enumerate([*objects, *any_values()]):
                if type(one) is not type(other):
                    self.assertIs(one == other, False, (at, number))
                    self.assertIs(one != other, True, (at, number))

    def test_methods_without_a_result(self):
        sheet = Sheet(HASTY, 9, Program())
        self.assertEqual((sheet.put(0, piece()), sheet.change(0, piece()), sheet.use(HASTY)), (None,) * 3)


class NamesTest(unittest.TestCase):
    """All arguments by the names of the document, in another order."""

    def check(self, asked, **arguments):
        names = list(arguments)
        expected = shown(asked(*arguments.values()))
        for order in (names, names[::-1], names[1:] + names[:1]):
            self.assertEqual(shown(asked(**{name: arguments[name] for name in order})), expected, asked)

    def test_functions(self):
        tool, other, program = HASTY, Tool(SORTER.rows), Program([piece(marked=True), piece(behind="r")])
        for asked in (example, happens, paper):
            self.check(asked, tool=tool, goal="over")
            self.check(asked, tool=tool, goal="order")
        for asked in (goals, reach, idle):
            self.check(asked, tool=tool)
        for asked in (alike, parting, commute, crossing):
            self.check(asked, p=tool, q=other)
        for asked in (needless, repairs):
            self.check(asked, tool=tool, wanted=["again"])
        self.check(comes, tool=tool, at=1)
        self.check(paper_holds, tool=tool, goal="order", value=paper(tool, "order"))
        self.check(run, tool=tool, width=6, program=program)
        self.check(runs, tool=tool, width=6, program=program, most=3)
        self.check(form_of, piece=program[0], width=6)
        self.check(lay, tool=tool, before=(True, False), form=FORMS[9])

    def test_classes(self):
        self.check(
            Piece, word="a", parts=["b"], broken=True, marked=True, ahead="up", behind="x", blanks=1, left=True,
        )
        self.check(Program, pieces=[piece()])
        self.check(Program.read, text="a(b)")
        self.check(Row, tests=["long"], deeds=["break"])
        self.check(Tool, rows=[HASTY[0]], sorts=True)
        self.check(Tool.read, text="tool\ndo mark")
        self.check(HASTY.without, at=1)
        self.assertEqual(piece().but(left=True, word="c"), Piece("c", ["b"], left=True))
        self.assertEqual(Desk().say(command="tool tool ; do mark"), "1 rows")

    def test_errors(self):
        for error, name in ((errors.InvalidPiece, "word"), (errors.InvalidProgram, "at"), (errors.InvalidText, "at"),
                            (errors.InvalidRow, "part"), (errors.InvalidTool, "at"), (errors.Refused, "word"),
                            (errors.NoPiece, "at"), (errors.NoRow, "at")):
            for value in any_values():
                self.assertIs(vars(error(**{name: value}))[name], value)
                self.assertIs(getattr(error(value), name), value)


class OrderOfErrorsTest(unittest.TestCase):
    def raised(self, asked, *arguments):
        with self.assertRaises(errors.LayError) as caught:
            asked(*arguments)
        return type(caught.exception).__name__, *vars(caught.exception).values()

    def test_the_one_listed_first(self):
        sheet, desk = Sheet(HASTY, 9, Program()), Desk()
        self.assertEqual(self.raised(Piece, "A", [], 1, 1, 1, 1, 9, 1), ("InvalidPiece", "word"))
        self.assertEqual(self.raised(Piece, "a", [], 1, 1, 1, 1, 9, 1), ("InvalidPiece", "parts"))
        self.assertEqual(self.raised(Row, "long", []), ("InvalidRow", "tests"))
        self.assertEqual(self.raised(Tool, None, None), ("InvalidRow", "rows"))
        self.assertEqual(self.raised(Program, [piece(), 1, None]), ("InvalidProgram", 1))
        self.assertEqual(self.raised(sheet.put, 1, None), ("NoPiece", 1))
        self.assertEqual(self.raised(sheet.put, 0, None), ("InvalidPiece", "piece"))
        self.assertEqual(self.raised(desk.say, "tool x\n"), ("InvalidCommand",))
        self.assertEqual(self.raised(desk.say, "program  x"), ("InvalidCommand",))
        self.assertEqual(self.raised(desk.say, "tool x"), ("InvalidTool", 0))
        self.assertEqual(self.raised(desk.say, "program x"), ("InvalidText", 0))
        self.assertEqual(self.raised(needless, SORTER, ["order", "never", 0]), ("InvalidGoal",))
        self.assertEqual(self.raised(commute, SORTER, SORTER), ("Refused", "sorts"))
        self.assertEqual(self.raised(reach, SORTER), ("Refused", "sorts"))


class LimitsTest(unittest.TestCase):
    def test_somewhat_beyond(self):
        row = Row(["long", "not left", "not first", "not broken", "not marked"], ["break", "mark", "lift", "space", "join"])
        tool = Tool([row] * 14)
        program = Program([piece(parts=["abcdef"] * 11, word=word) for word in "abcdefghij" * 4])
        for width in (1, 3, 91, 120):
            self.assertEqual(run(tool, width, program), plain.run(tool, width, program))
            self.assertEqual(form_of(program[0], width), plain.form_of(program[0], width))
            sheet = Sheet(tool, width, program)
            self.assertEqual(sheet.run(), run(tool, width, program) != program)
        for asked in (goals, reach, idle):
            asked(tool)
        self.assertEqual(len(runs(Tool.read("tool\ndo mark"), 40, program, 25)), 1)
        self.assertEqual(Desk().say(" ".join(["program", *["a(b)"] * 400])), "400")
        self.assertEqual(Desk().say(" ".join(["tool", "tool", *["; do mark"] * 50])), "50 rows")
