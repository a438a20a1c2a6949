"""[9] and [12]: what tests ask and deeds do, sorting, `run` and `runs`; [2] and [3] as far as running shows them."""

import itertools
import random
import unittest

from laytwice.pieces import Piece
from laytwice.programs import Program
from laytwice.running import run, runs
from laytwice.tools import Row, Tool
from tests import plain
from tests.samples import many_pieces, piece

CALM = Tool.read("tool\nif long do break then mark")
HASTY = Tool.read("tool\nif marked do break\nif long do mark")
# Never rests: the blank row is put in and taken out by turns.
RESTLESS = Tool.read("tool\nif blank do close then mark\nif not blank and not marked do space\ndo unmark")


def tool_of(*rows, sorts=False):
    return Tool.read("\n".join(["tool sorts" if sorts else "tool", *rows]))


def laid(tool, one, width=40):
    """What a tool makes of a single piece."""
    program = run(tool, width, Program([one]))
    return program[0]


def laid_text(tool, text, width=40):
    return str(run(tool, width, Program.read(text)))


class TestsTest(unittest.TestCase):
    """Each test of a row, seen by the mark or the blank row that a row with it makes."""

    def check(self, test, one, expected, width=40):
        self.assertIs(laid(tool_of(f"if {test} do mark"), one, width).marked, expected or one.marked, test)
        self.assertIs(laid(tool_of(f"if not {test} do mark"), one, width).marked, not expected or one.marked, test)
        spaced = one.but(blanks=2)
        expected_blanks = (1, 2) if expected else (2, 1)
        if test != "blank":
            found = [laid(tool_of(f"if {word}{test} do space"), spaced, width).blanks for word in ("", "not ")]
            self.assertEqual(tuple(found), expected_blanks, test)

    def test_what_a_piece_is(self):
        for broken, marked, left in itertools.product((False, True), repeat=3):
            one = piece(broken=broken, marked=marked, left=left)
            self.check("broken", one, broken)
            self.check("marked", one, marked)
            self.check("left", one, left)

    def test_remarks(self):
        for ahead, behind in itertools.product(("", "up"), ("", "down")):
            one = piece(ahead=ahead, behind=behind)
            self.check("ahead", one, ahead != "")
            self.check("behind", one, behind != "")

    def test_blank(self):
        for blanks in (0, 1, 2):
            self.check("blank", piece(blanks=blanks), blanks > 0)

    def test_long_at_widths_about_the_length(self):
        for one in (piece(), piece(left=True), piece(parts=["b", "cc"]), piece(broken=True), piece(ahead="abcdef"),
                    piece(broken=True, parts=["abcdef"] * 8)):
            for width in (one.bare - 1, one.bare, one.bare + 1):
                self.check("long", one, width < one.bare, width)

    def test_long_with_a_mark(self):
        for one in (piece(marked=True), piece(marked=True, broken=True), piece(marked=True, ahead="up")):
            for width in (one.bare - 1, one.bare, one.bare + 1, one.bare + 2):
                self.check("long", one, width < one.bare + 1, width)

    def test_long_with_a_remark_behind(self):
        for ahead in ("", "a", "abcdef"):
            one = piece(behind="note", ahead=ahead)
            for width in (3, 4, 5, 11, 12, 13):
                self.check("long", one, width < 4 + 8, width)
                self.check("long", one.but(marked=True), width < 4 + 8 + 1, width)

    def test_first(self):
        tool = tool_of("if first do mark", "if not first do space")
        self.assertEqual(laid_text(tool, "a(b)\na(b)\na(b)"), "a(b,)\n\na(b)\n\na(b)")

    def test_the_piece_ahead(self):
        for broken, behind in itertools.product((False, True), ("", "x")):
            ahead = piece(broken=broken, behind=behind)
            for test, holds in (("afterbroken", broken), ("afterbehind", behind != "")):
                program = run(tool_of(f"if {test} do mark"), 40, Program([ahead, piece()]))
                self.assertEqual([one.marked for one in program.pieces], [False, holds])
                program = run(tool_of(f"if not {test} do mark"), 40, Program([ahead, piece()]))
                self.assertEqual([one.marked for one in program.pieces], [True, not holds])

    def test_nothing_ahead_is_neither_broken_nor_has_a_remark(self):
        self.assertEqual(laid_text(tool_of("if afterbroken do mark", "if afterbehind do space"), "a(\n  b\n)  # x"),
                         "a(\n  b\n)  # x")
        self.assertEqual(laid_text(tool_of("if not afterbroken and not afterbehind do mark"), "a(b)"), "a(b,)")

    def test_the_piece_ahead_as_it_was_laid_out_in_this_run(self):
        tool = tool_of("if first do break", "if afterbroken and not broken do mark")
        self.assertEqual(laid_text(tool, "a(b)\na(b)\na(b)"), "a(\n  b\n)\na(b,)\na(b)")
        tool = tool_of("if first do join", "if afterbroken do mark")
        self.assertEqual(laid_text(tool, "a(\n  b\n)\na(b)"), "a(b)\na(b)")
        tool = tool_of("if afterbehind do mark", "do lift")
        self.assertEqual(laid_text(tool, "a(b)  # x\na(b)"), "# x\na(b)\na(b)")
        tool = tool_of("if afterbehind do mark", "do lower")
        self.assertEqual(laid_text(tool, "# x\na(b)\na(b)"), "a(b)  # x\na(b,)")

    def test_a_row_asks_what_earlier_rows_made(self):
        self.assertEqual(laid_text(tool_of("do break", "if broken do mark", "if marked do space"), "a(b)"),
                         "\na(\n  b,\n)")
        self.assertEqual(laid_text(tool_of("do join", "if broken do mark"), "a(\n  b\n)"), "a(b)")
        self.assertEqual(laid_text(tool_of("do mark", "if long do break"), "a(b)", 4), "a(\n  b,\n)")
        self.assertEqual(laid_text(tool_of("do lift", "if long do break"), "a(b)  # x", 4), "# x\na(b)")
        self.assertEqual(laid_text(tool_of("do lower", "if long do break"), "# x\na(b)", 8), "a(\n  b\n)  # x")
        self.assertEqual(laid_text(tool_of("if blank do close", "if blank do mark"), "\na(b)"), "a(b)")

    def test_tests_are_asked_once_ahead_of_all_deeds_of_a_row(self):
        self.assertEqual(laid_text(tool_of("if not broken do break then join then mark"), "a(b)"), "a(b,)")

    def test_all_tests_must_hold(self):
        tool = tool_of("if broken and marked and not left do space")
        for broken, marked, left in itertools.product((False, True), repeat=3):
            found = laid(tool, piece(broken=broken, marked=marked, left=left))
            self.assertEqual(found.blanks, 1 if broken and marked and not left else 0)
        self.assertFalse(laid(tool_of("if broken and not broken do mark"), piece(broken=True)).marked)
        self.assertTrue(laid(tool_of("if broken and broken do mark"), piece(broken=True)).marked)

    def test_a_row_without_tests_is_always_done(self):
        self.assertEqual([one.marked for one in run(tool_of("do mark"), 40, Program([piece()] * 3)).pieces], [True] * 3)

    def test_only_rows_that_ask_heed_that_a_piece_is_left(self):
        self.assertEqual(laid(tool_of("do break then mark then space"), piece(left=True)),
                         piece(left=True, broken=True, marked=True, blanks=1))


class DeedsTest(unittest.TestCase):
    def check(self, deed, one, **changed):
        self.assertEqual(laid(tool_of(f"do {deed}"), one), one.but(**changed), deed)

    def test_all_but_remarks_on_all_pieces(self):
        for one in many_pieces():
            self.check("break", one, broken=True)
            self.check("join", one, broken=False)
            self.check("mark", one, marked=True)
            self.check("unmark", one, marked=False)
            self.check("space", one, blanks=1)
            self.check("close", one, blanks=0)

    def test_lift(self):
        self.check("lift", piece(behind="x"), ahead="x", behind="")
        self.check("lift", piece(ahead="y"))
        self.check("lift", piece(ahead="y", behind="x"))
        self.check("lift", piece())

    def test_lower(self):
        self.check("lower", piece(ahead="x"), ahead="", behind="x")
        self.check("lower", piece(behind="y"))
        self.check("lower", piece(ahead="y", behind="x"))
        self.check("lower", piece())

    def test_deeds_one_behind_the_other(self):
        self.check("lift then lower", piece(behind="x"))
        self.check("lift then lower", piece(ahead="x"), ahead="", behind="x")
        self.check("lower then lift", piece(ahead="x"))
        self.check("lower then lift", piece(ahead="y", behind="x"))
        self.check("break then join", piece(broken=True), broken=False)
        self.check("join then break", piece(), broken=True)
        self.check("mark then unmark", piece(marked=True), marked=False)
        self.check("space then close", piece(blanks=2), blanks=0)
        self.check("close then space", piece(blanks=2), blanks=1)

    def test_blanks_are_a_number(self):
        for blanks in (0, 1, 2):
            for deed in ("break", "space", "close"):
                self.assertIs(type(laid(tool_of(f"do {deed}"), piece(blanks=blanks)).blanks), int)


class SortingTest(unittest.TestCase):
    SORTER = Tool([], True)

    def check(self, text, expected):
        self.assertEqual(laid_text(self.SORTER, text), expected)
        self.assertEqual(laid_text(Tool(), text), text)

    def test_words(self):
        self.check("c(x)\na(x)\nb(x)", "a(x)\nb(x)\nc(x)")
        self.check("ab(x)\nb(x)\na(x)", "a(x)\nab(x)\nb(x)")

    def test_items_of_the_same_word(self):
        self.check("a(y)\na(x, z)\na(x)", "a(x)\na(x, z)\na(y)")
        self.check("a(z)\na(b, a)\na(ab)\na(a, z)", "a(a, z)\na(ab)\na(b, a)\na(z)")
        self.check("b(a)\na(z)", "a(z)\nb(a)")

    def test_the_same_word_and_items_stay_as_they_stood(self):
        self.check("a(x,)\na(x)\na(x)  # n", "a(x,)\na(x)\na(x)  # n")
        self.check("b(x)  # n\na(x)  # z\nb(x,)\na(x)  # b\nb(x)", "a(x)  # z\na(x)  # b\nb(x)  # n\nb(x,)\nb(x)")

    def test_fences_stay(self):
        for fence in ("# r\nm(x)", "\nm(x)", "\n\nm(x)", "!m(x)", "\n# r\n!m(x)"):
            self.check(f"d(x)\nc(x)\n{fence}\nb(x)\na(x)", f"c(x)\nd(x)\n{fence}\na(x)\nb(x)")
            self.check(f"{fence}\nz(x)\nb(x)\na(x)", f"{fence}\na(x)\nb(x)\nz(x)")
            self.check(f"z(x)\nb(x)\n{fence}", f"b(x)\nz(x)\n{fence}")
            self.check(f"{fence}\n{fence}\nb(x)\na(x)", f"{fence}\n{fence}\na(x)\nb(x)")
            self.check(fence, fence)

    def test_what_is_no_fence(self):
        self.check("c(x)\nb(x)  # r\na(x,)\nab(\n  x\n)", "a(x,)\nab(\n  x\n)\nb(x)  # r\nc(x)")

    def test_no_piece_and_one(self):
        self.check("", "")
        self.check("b(a)", "b(a)")

    def test_sorting_is_done_ahead_of_all_rows(self):
        self.assertEqual(laid_text(tool_of("do close", sorts=True), "b(x)\n\na(x)"), "b(x)\na(x)")
        self.assertEqual(laid_text(tool_of("do space", sorts=True), "b(x)\na(x)"), "\na(x)\n\nb(x)")
        self.assertEqual(laid_text(tool_of("do lower", sorts=True), "c(x)\n# r\nb(x)\na(x)"), "c(x)\nb(x)  # r\na(x)")

    def test_rows_see_the_pieces_in_their_new_order(self):
        self.assertEqual(laid_text(tool_of("if first do mark", sorts=True), "b(x)\na(x)"), "a(x,)\nb(x)")
        self.assertEqual(laid_text(tool_of("if afterbroken do mark", sorts=True), "b(x)\na(\n  x\n)"), "a(\n  x\n)\nb(x,)")


class RunTest(unittest.TestCase):
    def test_examples_of_the_document(self):
        program = Program.read("call(alpha, beta, gamma)")
        self.assertEqual(str(run(CALM, 20, program)), "call(\n  alpha,\n  beta,\n  gamma,\n)")
        self.assertEqual([str(one) for one in runs(HASTY, 20, program, 9)],
                         ["call(alpha, beta, gamma,)", "call(\n  alpha,\n  beta,\n  gamma,\n)"])
        self.assertEqual(laid_text(Tool.read("tool sorts\nif long do lift"), "b(x)  # note\na(y)", 9),
                         "a(y)\n# note\nb(x)")

    def test_kinds(self):
        found = run(CALM, 20, Program.read("a(b)"))
        self.assertIs(type(found), Program)
        self.assertIs(type(found[0]), Piece)
        self.assertIs(type(runs(CALM, 20, found, 3)), tuple)

    def test_no_rows_and_no_pieces(self):
        self.assertEqual(run(Tool(), 4, Program(many_pieces())), Program(many_pieces()))
        self.assertEqual(run(CALM, 4, Program()), Program())
        self.assertEqual(run(Tool([], True), 4, Program()), Program())

    def test_arguments_by_name(self):
        program = Program.read("call(alpha)")
        self.assertEqual(run(program=program, tool=CALM, width=5), run(CALM, 5, program))
        self.assertEqual(runs(most=2, program=program, tool=CALM, width=5), runs(CALM, 5, program, 2))

    def test_nothing_is_changed_and_the_same_call_gives_the_same(self):
        tool = tool_of("if long do lift then break", "if not first do close", sorts=True)
        texts = ["b(x)  # note\n\na(y)", "a(x)\n!a(y)"]
        programs = [Program.read(text) for text in texts]
        before = str(tool)
        found = [run(tool, 9, program) for program in programs]
        for _ in range(2):
            self.assertEqual([run(tool, 9, program) for program in programs], found)
            runs(tool, 7, programs[0], 5)
            run(RESTLESS, 9, programs[1])
        self.assertEqual([str(program) for program in programs], texts)
        self.assertEqual(str(tool), before)

    def test_beyond_the_limits(self):
        long_tool = Tool([Row(["long"] * 6, ["break"] * 6)] * 14)
        program = Program([piece(parts=["abcdef"] * 11), piece()] * 20)
        found = run(long_tool, 60, program)
        self.assertEqual([one.broken for one in found.pieces], [True, False] * 20)
        self.assertEqual(run(CALM, 3, Program([piece()]))[0].broken, True)
        self.assertEqual(run(CALM, 200, program), program)
        self.assertEqual(len(runs(RESTLESS, 40, program, 25)), 25)

    def test_by_chance(self):
        chance = random.Random(12)
        for tool in plain.some_tools(150, 13, 8):
            for _ in range(6):
                program, width = plain.some_program(chance), chance.randint(4, 20)
                self.assertEqual(str(run(tool, width, program)), str(plain.run(tool, width, program)), tool)

    def test_each_deed_behind_each_test_on_all_pieces(self):
        program = Program(many_pieces())
        for at, (test, deed) in enumerate(itertools.product(plain.TESTS, plain.DEEDS)):
            tool = tool_of(f"if {test} do {deed}", f"if not {test} do mark then {deed}", sorts=at % 2 == 1)
            for width in (8, 15 + at % 8):
                self.assertEqual(str(run(tool, width, program)), str(plain.run(tool, width, program)), tool)


class RunsTest(unittest.TestCase):
    def test_at_rest_at_once(self):
        for text in ("a(b)", "", "a(\n  b\n)"):
            program = Program.read(text)
            for most in (1, 2, 20):
                self.assertEqual(runs(CALM, 20, program, most), (program,))

    def test_at_rest_behind_the_first_change(self):
        program = Program.read("call(alpha)")
        for most in (1, 2, 20):
            self.assertEqual([str(one) for one in runs(CALM, 9, program, most)], ["call(\n  alpha,\n)"])

    def test_at_rest_later(self):
        program = Program.read("call(alpha)")
        texts = ["call(alpha,)", "call(\n  alpha,\n)"]
        for most in (1, 2, 3, 20):
            self.assertEqual([str(one) for one in runs(HASTY, 9, program, most)], texts[:most])

    def test_at_rest_later_still(self):
        tool = tool_of("if blank do lift", "if marked do space", "if broken do mark", "if long do break")
        texts = ["a(\n  b\n)  # x", "a(\n  b,\n)  # x", "\na(\n  b,\n)  # x", "\n# x\na(\n  b,\n)"]
        for most in (1, 2, 3, 4, 5, 20):
            self.assertEqual([str(one) for one in runs(tool, 6, Program.read("a(b)  # x"), most)], texts[:most])

    def test_never_at_rest(self):
        texts = ["\na(b)", "a(b)"] * 10
        for most in (1, 2, 3, 20):
            self.assertEqual([str(one) for one in runs(RESTLESS, 9, Program.read("a(b)"), most)], texts[:most])

    def test_each_is_a_run_over_the_one_ahead(self):
        chance = random.Random(3)
        for tool in [RESTLESS, HASTY, *plain.some_tools(60, 7)]:
            program, width, most = plain.some_program(chance, 5), chance.randint(4, 16), chance.randint(1, 8)
            expected = [plain.run(tool, width, program)]
            while len(expected) < most and plain.run(tool, width, expected[-1]) != expected[-1]:
                expected.append(plain.run(tool, width, expected[-1]))
            self.assertEqual(runs(tool, width, program, most), tuple(expected))
