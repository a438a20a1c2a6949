"""[23] and [24]: sheets; [2] as far as these show it."""

import random
import unittest

from laytwice.errors import InvalidPiece, LayError, NoPiece
from laytwice.pieces import Piece
from laytwice.programs import Program
from laytwice.running import run
from laytwice.sheet import Sheet
from laytwice.tools import Tool
from tests import plain
from tests.samples import Foreign, any_values, piece

CALM = Tool.read("tool\nif long do break then mark")
HASTY = Tool.read("tool\nif marked do break\nif long do mark")
SORTER = Tool.read("tool sorts\ndo close")
TEXT = "b(x)\nc(y, z)  # r\n\na(v)"


def sheet_of(text=TEXT, tool=CALM, width=40):
    return Sheet(tool, width, Program.read(text))


def words(sheet):
    return "".join(one.word for one in sheet.program.pieces)


def state(sheet):
    return str(sheet.program), str(sheet.tool), sheet.width, len(sheet)


def all_states(sheet):
    """What a sheet is, and what it is behind each `undo`, in a trial, so that it stays as it is."""
    with sheet.trial():
        found = [state(sheet)]
        while sheet.undo():
            found.append(state(sheet))
    return found


class SheetTest(unittest.TestCase):
    def test_what_it_is_at_first(self):
        program = Program.read(TEXT)
        sheet = Sheet(HASTY, 17, program)
        self.assertEqual((sheet.program, sheet.tool, sheet.width, len(sheet)), (program, HASTY, 17, 0))
        self.assertEqual((type(sheet.program), type(sheet.tool), type(sheet.width)), (Program, Tool, int))
        self.assertEqual(vars(sheet)["width"], 17)
        self.assertIs(sheet.undo(), False)

    def test_arguments_by_name(self):
        sheet = Sheet(program=Program.read(TEXT), tool=CALM, width=8)
        self.assertEqual(state(sheet), (TEXT, str(CALM), 8, 0))
        sheet.put(piece=piece(), at=1)
        sheet.change(piece=piece(left=True), at=0)
        self.assertEqual(sheet.take(at=1), piece())
        sheet.use(tool=HASTY)
        self.assertEqual(sheet.within(work=len), 4)
        self.assertEqual(sheet.program[0], piece(left=True))

    def test_it_is_not_iterable(self):
        sheet = sheet_of()
        for one in (sheet, sheet.trial()):
            for asked in (iter, list, lambda value: 0 in value):
                with self.assertRaises(TypeError):
                    asked(one)

    def test_its_program_is_not_set(self):
        sheet = sheet_of()
        with self.assertRaises(AttributeError):
            sheet.program = Program()
        self.assertEqual(state(sheet), state(sheet_of()))

    def test_sheets_do_not_share_anything(self):
        program = Program.read(TEXT)
        one, other = Sheet(CALM, 40, program), Sheet(CALM, 40, program)
        one.take(0)
        one.tool = HASTY
        self.assertEqual((len(one), len(other)), (2, 0))
        self.assertEqual((str(program), str(other.program), other.tool), (TEXT, TEXT, CALM))


class TypingTest(unittest.TestCase):
    def test_put_at_each_place(self):
        for at in range(4):
            sheet = sheet_of()
            self.assertIsNone(sheet.put(at, piece(word="d")))
            self.assertEqual(words(sheet), "bca"[:at] + "d" + "bca"[at:])
            self.assertEqual(sheet.program[at], piece(word="d"))
            self.assertEqual(len(sheet), 1)

    def test_put_into_a_sheet_of_no_pieces(self):
        sheet = sheet_of("")
        sheet.put(0, piece())
        self.assertEqual((str(sheet.program), len(sheet)), ("a(b)", 1))

    def test_take_each(self):
        for at in range(3):
            sheet = sheet_of()
            expected = sheet.program[at]
            self.assertIs(type(sheet.take(at)), Piece)
            sheet.undo()
            self.assertEqual(sheet.take(at), expected)
            self.assertEqual(words(sheet), "bca"[:at] + "bca"[at + 1:])
            self.assertEqual(len(sheet), 1)

    def test_take_all(self):
        sheet = sheet_of()
        self.assertEqual([sheet.take(0).word for _ in range(3)], ["b", "c", "a"])
        self.assertEqual(state(sheet), ("", str(CALM), 40, 3))
        with self.assertRaises(NoPiece):
            sheet.take(0)

    def test_change_each(self):
        for at in range(3):
            sheet = sheet_of()
            self.assertIsNone(sheet.change(at, piece(word="d")))
            self.assertEqual(words(sheet), "bca"[:at] + "d" + "bca"[at + 1:])
            self.assertEqual(len(sheet), 1)

    def test_changes_to_the_same(self):
        sheet = sheet_of()
        sheet.change(1, sheet.program[1])
        self.assertEqual(state(sheet), (TEXT, str(CALM), 40, 1))
        self.assertIs(sheet.undo(), True)

    def test_what_was_handed_out_stays(self):
        sheet = sheet_of()
        program, tool = sheet.program, sheet.tool
        taken = sheet.take(1)
        sheet.put(0, taken)
        sheet.use(SORTER)
        sheet.run()
        self.assertEqual((str(program), tool), (TEXT, CALM))
        self.assertEqual(taken, Program.read("c(y, z)  # r")[0])
        self.assertEqual(len(program), 3)


class NoPlaceTest(unittest.TestCase):
    def wrong(self, sheet, error, deed, *arguments):
        before = all_states(sheet)
        with self.assertRaises(LayError) as caught:
            getattr(sheet, deed)(*arguments)
        self.assertIs(type(caught.exception), error, (deed, arguments))
        self.assertEqual(all_states(sheet), before)
        return caught.exception

    def sheets(self):
        typed = sheet_of()
        typed.put(0, piece())
        typed.use(HASTY)
        typed.take(0)
        return [sheet_of(), typed]

    def test_numbers_that_are_none(self):
        for sheet in self.sheets():
            for at in (-1, -3, 3, 4, 10 ** 30, -10 ** 30):
                self.assertEqual(self.wrong(sheet, NoPiece, "take", at).at, at)
                self.assertEqual(self.wrong(sheet, NoPiece, "change", at, piece()).at, at)
            for at in (-1, -4, 4, 5, 10 ** 30):
                self.assertEqual(self.wrong(sheet, NoPiece, "put", at, piece()).at, at)

    def test_in_a_sheet_of_no_pieces(self):
        sheet = sheet_of("")
        for at in (-1, 0, 1):
            self.wrong(sheet, NoPiece, "take", at)
            self.wrong(sheet, NoPiece, "change", at, piece())
        for at in (-1, 1):
            self.wrong(sheet, NoPiece, "put", at, piece())

    def test_any_value_for_a_number(self):
        for sheet in self.sheets():
            for at in [*any_values(), True, False, "0", 1.0, [0], (0,), None, Foreign()]:
                if type(at) is int and 0 <= at < 4:
                    continue
                self.assertIs(self.wrong(sheet, NoPiece, "take", at).at, at)
                self.assertIs(self.wrong(sheet, NoPiece, "put", at, piece()).at, at)
                self.assertIs(self.wrong(sheet, NoPiece, "change", at, piece()).at, at)

    def test_any_value_for_a_piece(self):
        for sheet in self.sheets():
            for value in [*any_values(), [piece()], (piece(),), Program([piece()]), "a(b)", Foreign(), Piece]:
                if type(value) is Piece:
                    continue
                for at in (0, 2):
                    self.assertEqual(self.wrong(sheet, InvalidPiece, "put", at, value).word, "piece")
                    self.assertEqual(self.wrong(sheet, InvalidPiece, "change", at, value).word, "piece")
                self.assertEqual(self.wrong(sheet, InvalidPiece, "put", 3, value).word, "piece")
                # At the end there is a place to put one, but nothing to change.
                self.wrong(sheet, NoPiece, "change", 3, value)

    def test_both_wrong(self):
        for sheet in self.sheets():
            for at in (-1, 9, True, "0", None, [], piece()):
                for value in (None, 0, "a(b)", [piece()], Program()):
                    self.assertIs(self.wrong(sheet, NoPiece, "put", at, value).at, at)
                    self.assertIs(self.wrong(sheet, NoPiece, "change", at, value).at, at)


class RunTest(unittest.TestCase):
    def test_it_runs_its_tool_at_its_width(self):
        sheet = sheet_of("call(alpha, beta)\na(b)", CALM, 9)
        self.assertIs(sheet.run(), True)
        self.assertEqual(str(sheet.program), "call(\n  alpha,\n  beta,\n)\na(b)")
        self.assertIs(sheet.run(), False)
        self.assertEqual(len(sheet), 2)
        sheet = sheet_of("call(alpha, beta)\na(b)", CALM, 17)
        self.assertIs(sheet.run(), False)
        self.assertEqual((str(sheet.program), len(sheet)), ("call(alpha, beta)\na(b)", 1))

    def test_it_runs_as_the_function_does(self):
        chance = random.Random(91)
        for tool in [HASTY, SORTER, *plain.some_tools(60, 92, 6)]:
            program, width = plain.some_program(chance), chance.randint(4, 16)
            sheet = Sheet(tool, width, program)
            for deeds in (1, 2, 3):
                expected = run(tool, width, program)
                self.assertEqual(expected, plain.run(tool, width, program))
                self.assertIs(sheet.run(), expected != program)
                self.assertEqual((sheet.program, len(sheet)), (expected, deeds))
                program = expected

    def test_only_the_order_changes(self):
        sheet = sheet_of("b(x)\na(y)", Tool([], True))
        self.assertIs(sheet.run(), True)
        self.assertEqual(words(sheet), "ab")
        self.assertIs(sheet.run(), False)

    def test_only_a_blank_row_changes(self):
        sheet = sheet_of("\n\na(y)", Tool.read("tool\ndo space"))
        self.assertIs(sheet.run(), True)
        self.assertIs(sheet.run(), False)

    def test_without_pieces(self):
        sheet = sheet_of("", SORTER)
        self.assertIs(sheet.run(), False)
        self.assertEqual(len(sheet), 1)

    def test_with_the_tool_that_was_set(self):
        sheet = sheet_of("call(alpha)", Tool(), 9)
        self.assertIs(sheet.run(), False)
        sheet.tool = CALM
        self.assertIs(sheet.run(), True)
        self.assertEqual(str(sheet.program), "call(\n  alpha,\n)")
        sheet.use(Tool.read("tool\ndo unmark then join"))
        self.assertIs(sheet.run(), True)
        self.assertEqual((str(sheet.program), len(sheet)), ("call(alpha)", 5))


class ToolTest(unittest.TestCase):
    def test_it_is_set_both_ways(self):
        sheet = sheet_of()
        sheet.tool = HASTY
        self.assertEqual((sheet.tool, len(sheet)), (HASTY, 1))
        self.assertIsNone(sheet.use(SORTER))
        self.assertEqual((sheet.tool, len(sheet)), (SORTER, 2))
        self.assertEqual(str(sheet.program), TEXT)
        self.assertIs(sheet.undo(), True)
        self.assertEqual(sheet.tool, HASTY)
        self.assertIs(sheet.undo(), True)
        self.assertEqual(state(sheet), state(sheet_of()))

    def test_to_an_equal_one(self):
        sheet = sheet_of()
        sheet.tool = CALM
        sheet.tool = Tool.read(str(CALM))
        sheet.use(CALM)
        sheet.use(Tool.read(str(CALM)))
        self.assertEqual(state(sheet), (TEXT, str(CALM), 40, 4))
        self.assertEqual([sheet.undo() for _ in range(5)], [True] * 4 + [False])

    def test_with_plus(self):
        sheet = sheet_of()
        sheet.tool += HASTY
        self.assertEqual((sheet.tool, len(sheet)), (CALM + HASTY, 1))
        self.assertEqual(len(CALM), 1)


class UndoTest(unittest.TestCase):
    def deeds(self):
        """Each deed alone: what is done, and what the sheet is behind it."""
        return (
            (lambda sheet: sheet.put(0, piece(word="d")), "d(b)\n" + TEXT, CALM),
            (lambda sheet: sheet.put(3, piece(word="d")), TEXT + "\nd(b)", CALM),
            (lambda sheet: sheet.take(0), TEXT[5:], CALM),
            (lambda sheet: sheet.take(2), TEXT[:-6], CALM),
            (lambda sheet: sheet.change(0, piece(word="d")), "d(b)" + TEXT[4:], CALM),
            (lambda sheet: sheet.change(2, piece(word="d")), TEXT[:-5] + "d(b)", CALM),
            (lambda sheet: sheet.run(), TEXT, CALM),
            (lambda sheet: sheet.use(SORTER), TEXT, SORTER),
            (lambda sheet: setattr(sheet, "tool", HASTY), TEXT, HASTY),
            (lambda sheet: sheet.use(CALM), TEXT, CALM),
        )

    def test_each_deed(self):
        for deed, text, tool in self.deeds():
            sheet = sheet_of()
            deed(sheet)
            self.assertEqual((str(sheet.program), sheet.tool, len(sheet)), (text, tool, 1))
            self.assertIs(sheet.undo(), True)
            self.assertEqual(state(sheet), state(sheet_of()))
            self.assertIs(sheet.undo(), False)
            self.assertEqual(state(sheet), state(sheet_of()))

    def test_a_run_that_changes(self):
        sheet = sheet_of(tool=SORTER)
        self.assertIs(sheet.run(), True)
        self.assertIs(sheet.undo(), True)
        self.assertEqual(state(sheet), (TEXT, str(SORTER), 40, 0))
        self.assertIs(sheet.run(), True)

    def test_several_in_a_row_and_done_again(self):
        sheet = sheet_of()
        expected = []
        for deed, _, _ in self.deeds():
            expected.append(state(sheet))
            deed(sheet)
        sheet.run()
        last = state(sheet)
        self.assertEqual(len(sheet), 11)
        self.assertIs(sheet.undo(), True)
        for one in expected[::-1]:
            self.assertIs(sheet.undo(), True)
            self.assertEqual(state(sheet), one)
        self.assertIs(sheet.undo(), False)
        self.assertEqual(state(sheet), state(sheet_of()))
        for deed, _, _ in self.deeds():
            deed(sheet)
        sheet.run()
        self.assertEqual(state(sheet), last)

    def test_what_was_taken_back_is_gone(self):
        sheet = sheet_of()
        sheet.take(0)
        sheet.take(0)
        sheet.undo()
        sheet.put(0, piece(word="d"))
        self.assertEqual((words(sheet), len(sheet)), ("dca", 2))
        self.assertEqual([sheet.undo(), words(sheet)], [True, "ca"])
        self.assertEqual([sheet.undo(), words(sheet)], [True, "bca"])
        self.assertIs(sheet.undo(), False)

    def test_what_raises_is_no_deed(self):
        sheet = sheet_of()
        sheet.take(0)
        for error, deed in ((NoPiece, lambda: sheet.take(7)), (InvalidPiece, lambda: sheet.put(0, None))):
            with self.assertRaises(error):
                deed()
        self.assertEqual(len(sheet), 1)
        self.assertIs(sheet.undo(), True)
        self.assertEqual(words(sheet), "bca")

    def test_beyond_the_limits(self):
        sheet = sheet_of("")
        for number in range(90):
            sheet.put(number, piece())
        self.assertEqual((len(sheet), len(sheet.program)), (90, 90))
        self.assertEqual([sheet.undo() for _ in range(91)], [True] * 90 + [False])


class TrialTest(unittest.TestCase):
    def setUp(self):
        self.sheet = sheet_of(tool=SORTER)
        self.sheet.put(1, piece())
        self.sheet.run()
        self.sheet.use(HASTY)
        self.before = all_states(self.sheet)

    def spoil(self, sheet):
        """Undo what was done, and do something else."""
        for _ in range(2):
            sheet.undo()
        sheet.change(0, piece(word="zz", behind="r"))
        sheet.use(CALM)
        sheet.take(1)
        sheet.run()

    def test_left_in_order(self):
        with self.sheet.trial() as same:
            self.assertIs(same, self.sheet)
            self.assertEqual(state(self.sheet), self.before[0])
            self.spoil(self.sheet)
            self.assertNotEqual(state(self.sheet), self.before[0])
        self.assertEqual(all_states(self.sheet), self.before)

    def test_nothing_done(self):
        with self.sheet.trial():
            pass
        self.assertEqual(all_states(self.sheet), self.before)

    def test_left_by_an_error(self):
        for error in (KeyError, NoPiece(3), KeyboardInterrupt, ZeroDivisionError("x")):
            with self.assertRaises((KeyError, NoPiece, KeyboardInterrupt, ZeroDivisionError)) as caught:
                with self.sheet.trial():
                    self.spoil(self.sheet)
                    raise error
            if isinstance(error, Exception):
                self.assertIs(caught.exception, error)
            self.assertEqual(all_states(self.sheet), self.before)

    def test_left_by_an_error_of_the_sheet(self):
        with self.assertRaises(NoPiece):
            with self.sheet.trial() as sheet:
                self.spoil(sheet)
                sheet.take(99)
        self.assertEqual(all_states(self.sheet), self.before)

    def test_left_by_return(self):
        def work():
            with self.sheet.trial() as sheet:
                self.spoil(sheet)
                return len(sheet)

        self.assertEqual(work(), 5)
        self.assertEqual(all_states(self.sheet), self.before)

    def test_one_within_another(self):
        with self.sheet.trial() as sheet:
            sheet.take(0)
            between = state(sheet)
            with sheet.trial() as inner:
                self.assertIs(inner, sheet)
                self.spoil(inner)
            self.assertEqual(state(sheet), between)
            with self.assertRaises(KeyError):
                with sheet.trial():
                    while sheet.undo():
                        pass
                    raise KeyError
            self.assertEqual(state(sheet), between)
            self.assertIs(sheet.undo(), True)
            self.assertEqual(state(sheet), self.before[0])
            sheet.undo()
        self.assertEqual(all_states(self.sheet), self.before)

    def test_all_taken_back_in_it(self):
        with self.sheet.trial() as sheet:
            self.assertEqual([sheet.undo() for _ in range(4)], [True] * 3 + [False])
            self.assertEqual(len(sheet), 0)
        self.assertEqual(all_states(self.sheet), self.before)

    def test_as_it_was_when_it_was_entered(self):
        trial = self.sheet.trial()
        self.sheet.take(0)
        self.sheet.use(CALM)
        entered = all_states(self.sheet)
        self.assertNotEqual(entered, self.before)
        with trial:
            self.spoil(self.sheet)
        self.assertEqual(all_states(self.sheet), entered)

    def test_each_call_gives_a_new_one(self):
        one, other = self.sheet.trial(), self.sheet.trial()
        self.assertIsNot(one, other)
        with one:
            self.sheet.take(0)
            between = all_states(self.sheet)
            with other:
                self.spoil(self.sheet)
            self.assertEqual(all_states(self.sheet), between)
        self.assertEqual(all_states(self.sheet), self.before)

    def test_deeds_behind_it(self):
        with self.sheet.trial():
            self.spoil(self.sheet)
        self.sheet.take(0)
        self.assertEqual(len(self.sheet), len(self.before))
        self.assertIs(self.sheet.undo(), True)
        self.assertEqual(all_states(self.sheet), self.before)

    def test_of_another_sheet(self):
        other = sheet_of()
        with other.trial():
            self.sheet.undo()
            other.take(0)
        self.assertEqual(all_states(self.sheet), self.before[1:])
        self.assertEqual(state(other), state(sheet_of()))

    def test_within_returns(self):
        seen = []

        def work(sheet):
            seen.append(sheet)
            self.spoil(sheet)
            return seen

        self.assertIs(self.sheet.within(work), seen)
        self.assertIs(seen[0], self.sheet)
        self.assertEqual(len(seen), 1)
        self.assertEqual(all_states(self.sheet), self.before)
        self.assertIsNone(self.sheet.within(self.spoil))
        self.assertEqual(all_states(self.sheet), self.before)
        self.assertIs(self.sheet.within(lambda sheet: sheet.undo()), True)
        self.assertEqual(self.sheet.within(lambda sheet: sheet.take(0)), self.sheet.program[0])
        self.assertEqual(all_states(self.sheet), self.before)

    def test_within_raises(self):
        error = KeyError("x")

        def work(sheet):
            self.spoil(sheet)
            raise error

        with self.assertRaises(KeyError) as caught:
            self.sheet.within(work)
        self.assertIs(caught.exception, error)
        self.assertEqual(all_states(self.sheet), self.before)

    def test_within_one_another(self):
        def work(sheet):
            sheet.take(0)
            return sheet.within(lambda same: (same.take(0), len(same))), len(sheet)

        (taken, deeds), later = self.sheet.within(work)
        self.assertEqual((taken, deeds, later), (self.sheet.program[1], 5, 4))
        self.assertEqual(all_states(self.sheet), self.before)


class ChanceTest(unittest.TestCase):
    """Many deeds in a row, against a list of all that the sheet has been."""

    def deed(self, sheet, chance, model):
        """Do a deed by chance, and put what the sheet is to be into the model."""
        pieces, tool = model[-1]
        number, at, one = chance.randrange(6), chance.randint(0, len(pieces)), plain.some_piece(chance)
        if number == 0 or (number < 3 and at == len(pieces)):
            sheet.put(at, one)
            model.append(((*pieces[:at], one, *pieces[at:]), tool))
        elif number == 1:
            self.assertEqual(sheet.take(at), pieces[at])
            model.append(((*pieces[:at], *pieces[at + 1:]), tool))
        elif number == 2:
            sheet.change(at, one)
            model.append(((*pieces[:at], one, *pieces[at + 1:]), tool))
        elif number == 3:
            after = plain.run(tool, sheet.width, Program(pieces))
            self.assertIs(sheet.run(), after.pieces != pieces)
            model.append((after.pieces, tool))
        elif number == 4:
            other = plain.some_tool(chance)
            sheet.use(other)
            model.append((pieces, other))
        else:
            self.assertIs(sheet.undo(), len(model) > 1)
            if len(model) > 1:
                model.pop()

    def steps(self, sheet, chance, model, depth):
        for _ in range(12):
            if depth > 0 and chance.random() < 0.2:
                with sheet.trial():
                    self.steps(sheet, chance, list(model), depth - 1)
            else:
                self.deed(sheet, chance, model)
            self.assertEqual((sheet.program.pieces, sheet.tool, len(sheet)), (*model[-1], len(model) - 1))

    def test_by_chance(self):
        chance = random.Random(93)
        for _ in range(60):
            program, tool = plain.some_program(chance, 4), plain.some_tool(chance)
            sheet = Sheet(tool, chance.randint(4, 16), program)
            self.steps(sheet, chance, [(program.pieces, tool)], 2)
