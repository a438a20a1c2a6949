"""[13] and [14]: forms; [2] as far as forms show it."""

import itertools
import random
import unittest

from laytwice.forms import FORMS, form_of, lay
from laytwice.pieces import Piece
from laytwice.running import run
from laytwice.programs import Program
from laytwice.tools import Tool
from tests import plain
from tests.samples import many_pieces, piece


def sizes(one, widths):
    return [form_of(one, width)[0] for width in widths]


class FormsTest(unittest.TestCase):
    def test_all_ascending_each_once(self):
        self.assertIsInstance(FORMS, tuple)
        self.assertEqual(len(FORMS), 432)
        self.assertEqual(list(FORMS), sorted(set(FORMS)))
        self.assertEqual(list(FORMS), sorted(plain.all_forms()))

    def test_kinds(self):
        for form in FORMS:
            self.assertIs(type(form), tuple)
            self.assertEqual([type(one) for one in form], [str, bool, bool, bool, bool, int, bool])

    def test_just_the_forms_that_pieces_have(self):
        found = {form_of(one, width) for one in many_pieces() for width in range(4, 91)}
        self.assertEqual(found, set(FORMS))


class FormOfTest(unittest.TestCase):
    def test_example_of_the_document(self):
        one = Piece("call", ["a"], behind="x")
        self.assertEqual((sizes(one, (6, 7, 11, 12, 13)), one.bare), (["over", "even", "tight", "just", "wide"], 7))

    def test_without_a_remark(self):
        self.assertEqual(sizes(piece(), (2, 3, 4, 5, 6, 9, 90)), ["over", "over", "even", *["wide"] * 4])

    def test_gap_of_the_remark_behind(self):
        self.assertEqual(sizes(piece(behind="abc"), (3, 4, 5, 10, 11, 12, 50)),
                         ["over", "even", "tight", "tight", "just", "wide", "wide"])

    def test_gap_of_the_remark_ahead(self):
        self.assertEqual(sizes(piece(ahead="abc"), (3, 4, 5, 10, 11, 12, 50)),
                         ["over", "even", "tight", "tight", "just", "wide", "wide"])

    def test_gap_with_both(self):
        self.assertEqual(sizes(piece(ahead="abcdef", behind="a"), (4, 8, 9, 10)), ["even", "tight", "just", "wide"])
        self.assertEqual(sizes(piece(ahead="a", behind="abcdef"), (4, 9, 13, 14, 15)),
                         ["even", "tight", "tight", "just", "wide"])

    def test_the_size_does_not_depend_on_the_mark_or_rows(self):
        for others in ({"marked": True}, {"broken": True}, {"blanks": 2}):
            for behind in ("", "x"):
                one = piece(behind=behind)
                self.assertEqual(sizes(one.but(**others), range(2, 12)), sizes(one, range(2, 12)))

    def test_left_is_a_sign_longer(self):
        self.assertEqual(sizes(piece(left=True), (4, 5, 6)), ["over", "even", "wide"])

    def test_the_rest(self):
        one = Piece("a", ["b"], True, False, "up", "down", 2, True)
        self.assertEqual(form_of(one, 50), ("wide", True, False, True, True, 2, True))
        self.assertEqual(form_of(piece(marked=True, ahead="x"), 4), ("even", False, True, True, False, 0, False))
        self.assertEqual(form_of(piece(blanks=1, behind="x"), 3), ("over", False, False, False, True, 1, False))

    def test_kinds(self):
        for one in (piece(), piece(ahead="up"), piece(behind="down", left=True, blanks=1)):
            found = form_of(one, 8)
            self.assertIs(type(found), tuple)
            self.assertEqual([type(told) for told in found], [str, bool, bool, bool, bool, int, bool])

    def test_arguments_by_name(self):
        self.assertEqual(form_of(width=8, piece=piece()), form_of(piece(), 8))

    def test_all_pieces(self):
        for one in many_pieces():
            for width in range(3, 45):
                self.assertEqual(form_of(one, width), plain.form_of(one, width))

    def test_each_form_at_several_widths(self):
        for width in (20, 33, 60):
            for less, remark in ((0, "r"), (2, "remark")):
                for form in FORMS:
                    self.assertEqual(form_of(plain.piece_with(form, width, "ab", remark, less), width), form)


class LayTest(unittest.TestCase):
    def check(self, rows, before, form, expected):
        for sorts in ("", " sorts"):
            self.assertEqual(lay(Tool.read("\n".join(["tool" + sorts, *rows])), before, form), expected)

    def test_example_of_the_document(self):
        tool = Tool.read("tool\nif long do lift\nif afterbroken do space")
        self.assertEqual(lay(tool, (True, False), form_of(Piece("call", ["a"], behind="x"), 11)),
                         ("tight", False, False, True, False, 1, False))

    def test_without_rows(self):
        for form in FORMS:
            for before in plain.BEFORES:
                self.check([], before, form, form)

    def test_what_stands_ahead(self):
        form = ("wide", False, False, False, False, 0, False)
        broken, marked, both = [(*form[:1], *shape, *form[3:]) for shape in ((True, False), (False, True), (True, True))]
        rows = ["if afterbroken do break", "if afterbehind do mark"]
        self.check(rows, (), form, form)
        self.check(rows, (False, False), form, form)
        self.check(rows, (False, True), form, marked)
        self.check(rows, (True, False), form, broken)
        self.check(rows, (True, True), form, both)
        rows = ["if not afterbroken do break", "if not afterbehind do mark"]
        for before, expected in zip(plain.BEFORES, (both, both, broken, marked, form)):
            self.check(rows, before, form, expected)
        for before in plain.BEFORES:
            self.check(["if first do break"], before, form, broken if before == () else form)
            self.check(["if not first do break"], before, form, form if before == () else broken)

    def test_long(self):
        for form in FORMS:
            size, broken, marked, ahead, behind, blanks, left = form
            length = {"over": 11, "even": 10, "tight": 8, "just": 6, "wide": 2}[size] + marked + 4 * behind
            expected = form if length <= 10 else (size, broken, marked, ahead, behind, 1, left)
            self.check(["if long do space"], (), form, expected)

    def test_long_with_a_mark_that_was_put_there(self):
        rows = ["do mark", "if long do break"]
        for size, broken in (("over", True), ("even", True), ("wide", False)):
            self.check(rows, (), (size, False, False, False, False, 0, False), (size, broken, True, False, False, 0, False))
        for size, broken in (("tight", True), ("just", True), ("wide", False)):
            self.check(rows, (), (size, False, False, False, True, 0, False), (size, broken, True, False, True, 0, False))
        for size in ("tight", "just"):
            self.check(rows, (), (size, False, False, True, False, 0, False), (size, False, True, True, False, 0, False))
            self.check(["do unmark", "if long do break"], (), (size, False, True, False, True, 0, False),
                       (size, size == "tight", False, False, True, 0, False))

    def test_long_with_a_remark_that_was_moved(self):
        for size, long_ahead, long_behind in (("over", True, True), ("even", False, True), ("tight", False, True),
                                              ("just", False, False), ("wide", False, False)):
            self.check(["do lift", "if long do break"], (True, True), (size, False, False, False, True, 2, True),
                       (size, long_ahead, False, True, False, 2, True))
            self.check(["do lower", "if long do break"], (True, True), (size, False, False, True, False, 1, True),
                       (size, long_behind, False, False, True, 1, True))

    def test_remarks_at_both_places_stay(self):
        form = ("just", False, False, True, True, 0, False)
        self.check(["do lift then lower", "do lower then lift", "do lift", "do lower"], (), form, form)

    def test_all_forms_behind_everything(self):
        for at, tool in enumerate(plain.some_tools(40, 5, 8)):
            width, less = 25 + at, at % 5
            for form in FORMS:
                one = plain.piece_with(form, width, "ab", "r" * (1 + at % 6), less)
                for before in plain.BEFORES:
                    expected = plain.form_of(plain.laid(tool, width, before, one), width)
                    self.assertEqual(lay(tool, before, form), expected, tool)

    def test_a_run_lays_out_forms(self):
        chance = random.Random(8)
        for tool in plain.some_tools(60, 9):
            tool = Tool(tool.rows)
            program, width = plain.some_program(chance), chance.randint(4, 16)
            before = ()
            for one, found in zip(program.pieces, run(tool, width, program).pieces):
                form = lay(tool, before, form_of(one, width))
                self.assertEqual(form_of(found, width), form)
                before = (form[1], form[4])

    def test_kinds_and_names(self):
        tool = Tool.read("tool\ndo space then break then lift")
        for form, before in itertools.product(FORMS[::7], plain.BEFORES):
            found = lay(form=form, before=before, tool=tool)
            self.assertIs(type(found), tuple)
            self.assertEqual([type(told) for told in found], [str, bool, bool, bool, bool, int, bool])
            self.assertEqual(lay(tool, list(before), list(form)), found)

    def test_what_a_run_returned_may_be_passed_on(self):
        program = run(Tool.read("tool\ndo mark"), 4, Program([piece(behind="x")]))
        self.assertEqual(form_of(program[0], 8), ("tight", False, True, False, True, 0, False))
