"""[8]: programs; [2] and [3] as far as programs show them."""

import itertools
import re
import unittest

from laytwice.errors import InvalidProgram, InvalidText, NoPiece
from laytwice.pieces import Piece
from laytwice.programs import Program
from tests.samples import Foreign, any_values, many_pieces, piece

NAME = "[a-z]{1,6}"
# A letter for each kind of row: Blank, Remark, Flat, Head, Comma behind an item, Item, Zero indent.
ROWS = (
    ("b", ""),
    ("r", f"# {NAME}"),
    ("f", rf"!?{NAME}\({NAME}(, {NAME})*,?\)(  # {NAME})?"),
    ("h", rf"!?{NAME}\("),
    ("c", f"  {NAME},"),
    ("i", f"  {NAME}"),
    ("z", rf"\)(  # {NAME})?"),
)
PROGRAM = "(b{0,2}r?(f|hc*(i|c)z))*"


def letter_of(row):
    for letter, pattern in ROWS:
        if re.fullmatch(pattern, row):
            return letter
    return "?"


def is_begun(letters):
    """Whether some rows behind these make them those of a program."""
    return any(re.fullmatch(PROGRAM, letters + rest) for rest in ("", "f", "iz", "z"))


def plainly_wrong(text):
    """What InvalidText tells of this text, or None if it is that of a program."""
    rows = text.split("\n")
    letters = "".join(letter_of(row) for row in rows)
    for at in range(len(rows)):
        if not is_begun(letters[:at + 1]):
            return at
    if text == "" or re.fullmatch(PROGRAM, letters):
        return None
    return len(rows)


def told_by_read(text):
    """What InvalidText tells of this text, or None if it is read and written alike."""
    try:
        program = Program.read(text)
    except InvalidText as error:
        return error.at
    return None if str(program) == text else "written otherwise"


class MakingTest(unittest.TestCase):
    def wrong(self, at, value):
        with self.assertRaises(InvalidProgram) as caught:
            Program(value)
        self.assertEqual(caught.exception.at, at)
        self.assertIs(type(caught.exception.at), int)

    def test_pieces(self):
        one, other = piece(), piece(word="z")
        self.assertEqual(Program().pieces, ())
        self.assertEqual(Program([one, other]).pieces, (one, other))
        self.assertEqual(Program(pieces=(one,)).pieces, (one,))
        self.assertIsInstance(Program([one]).pieces, tuple)

    def test_no_sequence(self):
        for value in any_values():
            if not isinstance(value, (list, tuple)):
                self.wrong(0, value)
        for value in (iter([]), {}, {0}, range(0), b""):
            self.wrong(0, value)

    def test_something_that_is_no_piece(self):
        for value in any_values():
            if isinstance(value, Piece):
                continue
            self.wrong(0, [value])
            self.wrong(0, (value, piece()))
            self.wrong(2, [piece(), piece(), value])
            self.wrong(1, (piece(), value, 5, value))

    def test_more_pieces_than_the_limit_are_no_error(self):
        self.assertEqual(len(Program([piece()] * 45)), 45)

    def test_a_list_that_is_changed_afterwards(self):
        pieces = [piece()]
        program = Program(pieces)
        pieces.append(piece())
        pieces[0] = None
        self.assertEqual(program.pieces, (piece(),))
        self.assertEqual(len(program), 1)


class SequenceTest(unittest.TestCase):
    def test_len_and_index(self):
        pieces = [piece(), piece(word="c"), piece(word="b")]
        program = Program(pieces)
        self.assertEqual((len(Program()), len(program)), (0, 3))
        self.assertEqual([program[at] for at in range(3)], pieces)

    def test_numbers_of_no_piece(self):
        for pieces in ([], [piece()], [piece()] * 3):
            program = Program(pieces)
            for at in (len(pieces), len(pieces) + 1, -1, -2, -3, 10 ** 30, -10 ** 30):
                with self.assertRaises(NoPiece) as caught:
                    program[at]
                self.assertEqual(caught.exception.at, at)

    def test_not_iterable(self):
        for program in (Program(), Program([piece()])):
            for use in (iter, list, tuple, sorted, set, enumerate, zip, lambda one: piece() in one):
                with self.assertRaises(TypeError):
                    use(program)

    def test_sum(self):
        p, q = Program([piece(), piece(word="b")]), Program([piece(word="c")])
        self.assertEqual((p + q).pieces, (piece(), piece(word="b"), piece(word="c")))
        self.assertEqual((q + p).pieces, (piece(word="c"), piece(), piece(word="b")))
        self.assertEqual(p + Program(), p)
        self.assertEqual(Program() + p, p)
        self.assertEqual((len(p), len(q)), (2, 1))

    def test_sum_in_place_is_a_new_object(self):
        p = q = Program([piece()])
        p += Program([piece(word="b")])
        self.assertEqual((len(p), len(q)), (2, 1))
        self.assertIsNot(p, q)

    def test_sum_with_something_else(self):
        for value in ([piece()], (piece(),), piece(), None, 1, "a(b)"):
            with self.assertRaises(TypeError):
                Program() + value
            with self.assertRaises(TypeError):
                value + Program()


class EqualityTest(unittest.TestCase):
    def test_equal_if_the_texts_are(self):
        programs = [Program(), *[Program([one]) for one in many_pieces()], Program([piece(), piece()])]
        for at, one in enumerate(programs):
            for number, other in enumerate(programs):
                self.assertIs(one == other, at == number)
                self.assertIs(one != other, at != number)

    def test_equal_but_not_the_same_object(self):
        self.assertTrue(Program([piece()]) == Program((Piece("a", ("b",)),)))

    def test_objects_of_other_classes(self):
        for program in (Program(), Program([piece()])):
            for value in [*any_values(), Foreign(), object(), str(program), program.pieces]:
                if not isinstance(value, Program):
                    self.assertIs(program == value, False)
                    self.assertIs(program != value, True)


class TextTest(unittest.TestCase):
    def test_text(self):
        self.assertEqual(str(Program()), "")
        pieces = [Piece("call", ["a", "b"], behind="x"), Piece("g", ["c"], True, True, "up", "", 2, True)]
        self.assertEqual(str(Program(pieces)), "call(a, b)  # x\n\n\n# up\n!g(\n  c,\n)")

    def test_read(self):
        text = "call(a, b)  # x\n\n\n# up\n!g(\n  c,\n)"
        pieces = (Piece("call", ["a", "b"], behind="x"), Piece("g", ["c"], True, True, "up", "", 2, True))
        self.assertEqual(Program.read(text).pieces, pieces)
        self.assertEqual(Program.read(text=text).pieces, pieces)
        self.assertIs(type(Program.read(text)), Program)
        self.assertEqual(Program.read("").pieces, ())

    def test_read_what_is_written(self):
        pieces = many_pieces()
        for one in pieces:
            program = Program([one])
            self.assertEqual(Program.read(str(program)), program)
            self.assertEqual(Program.read(str(program)).pieces, (one,))
        for at in range(0, len(pieces), 7):
            program = Program(pieces[at:at + 30])
            self.assertEqual(Program.read(str(program)).pieces, program.pieces)

    def test_more_items_and_pieces_than_the_limits_are_read(self):
        program = Program([Piece("a", ["b"] * 12), Piece("a", ["b"] * 12, True)] * 20)
        self.assertEqual(Program.read(str(program)).pieces, program.pieces)


class WrongTextTest(unittest.TestCase):
    def wrong(self, at, text):
        with self.assertRaises(InvalidText) as caught:
            Program.read(text)
        self.assertEqual(caught.exception.at, at, text)

    def test_no_string(self):
        for value in any_values():
            if not isinstance(value, str):
                self.wrong(0, value)
        self.wrong(0, b"a(b)")

    def test_third_blank_row(self):
        self.wrong(3, "a(b)\n\n\n\nc(d)")
        self.wrong(2, "\n\n\na(b)")
        self.wrong(2, "\n\n")
        self.wrong(2, "\n\n\n\n\n")

    def test_too_early_an_end(self):
        self.wrong(2, "\n")
        self.wrong(2, "a(b)\n")
        self.wrong(3, "a(b)\n\n")
        self.wrong(1, "# x")
        self.wrong(2, "\n# x")
        self.wrong(1, "a(")
        self.wrong(2, "a(\n  b")
        self.wrong(2, "a(\n  b,")
        self.wrong(4, "c(d)\na(\n  b,\n  c")

    def test_rows_that_cannot_stand_there(self):
        self.wrong(1, "# x\n\na(b)")
        self.wrong(1, "# x\n# y\na(b)")
        self.wrong(1, "a(\n)")
        self.wrong(1, "a(\n")
        self.wrong(1, "a(\n\n  b\n)")
        self.wrong(2, "a(\n  b\n  c\n)")
        self.wrong(2, "a(\n  b,\n\n)")
        self.wrong(2, "a(\n  b,\nc(d)\n)")
        self.wrong(0, "  b,")
        self.wrong(0, ")")
        self.wrong(3, "a(\n  b\n)\n)")
        self.wrong(1, "a(b)\n  b")

    def test_wrong_rows(self):
        for row in (" ", "  ", "a", "a(b", "a(b))", "a((b)", "a()", "a(,)", "a(b,,)", "a(b,c)", "a(b, c, )", "a(b,  c)",
                    "a( b)", "a(b )", "a(b) ", " a(b)", "a (b)", "!!a(b)", "! a(b)", "!(b)", "(b)", "A(b)", "a(B)",
                    "a(b)# x", "a(b) # x", "a(b)   # x", "a(b)  #x", "a(b)  # ", "a(b)  # X", "a(b)  # x ",
                    "a(b)  # x  # y", "a(b)!", "abcdefg(b)", "a(abcdefg)", "a(b)  # abcdefg", "# abcdefg", "#", "# ",
                    "#x", "#  x", "# x y", " # x", "!# x", "a(  # x", "a( ", "!", "a(b)\r", "a(b)\t", "a(b1)", "a(\u00e4)"):
            self.wrong(0, row)
            self.wrong(1, f"c(d)\n{row}\ne(f)")
        for row in ("b", " b", "   b", "  b ", "  b,,", "  ,", "  B", "  abcdefg", "  b, c", "  !b", "  # x", "  b  # x"):
            self.wrong(1, f"a(\n{row}\n)")
            self.wrong(2, f"a(\n  c,\n{row}\n)")
        for row in (") ", " )", "))", "),", ")  # ", ")  # X", ") # x", ")  # x y", ")  # x  # y", "!)"):
            self.wrong(2, f"a(\n  c,\n{row}")
            self.wrong(2, f"a(\n  c\n{row}\n")

    def test_the_reference_itself(self):
        self.assertIsNone(plainly_wrong("\n# x\na(\n  b,\n)"))
        self.assertIsNone(plainly_wrong(""))
        self.assertEqual(plainly_wrong("a(b)\n\n\n\nc(d)"), 3)
        self.assertEqual(plainly_wrong("a(b)\n"), 2)

    def test_all_short_texts(self):
        rows = ("", "# x", "a(b)", "!a(b, c,)  # x", "a(", "  b,", "  b", ")", ")  # x", " ")
        for length in range(1, 5):
            for chosen in itertools.product(rows, repeat=length):
                text = "\n".join(chosen)
                self.assertEqual(told_by_read(text), plainly_wrong(text), text)

    def test_longer_texts_with_a_row_out_in_twice_or_otherwise(self):
        pieces = many_pieces()
        for at in range(0, len(pieces) - 4, 5):
            rows = str(Program(pieces[at:at + 4])).split("\n")
            for number in range(len(rows)):
                for put in ([], [rows[number]] * 2, ["", rows[number]], ["# x"], ["a(b)"], ["  b"], ["  b,"], [")"]):
                    text = "\n".join(rows[:number] + put + rows[number + 1:])
                    self.assertEqual(told_by_read(text), plainly_wrong(text), text)
                text = "\n".join(rows[:number])
                self.assertEqual(told_by_read(text), plainly_wrong(text), text)
