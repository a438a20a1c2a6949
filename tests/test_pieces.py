"""[6] and [7]: pieces; [1], [2] and [3] as far as pieces show them."""

import unittest

from laytwice.errors import InvalidPiece
from laytwice.pieces import Piece
from laytwice.programs import Program
from laytwice.tools import Row, Tool
from tests.samples import Foreign, any_values, many_pieces, piece

NAMES = ("word", "parts", "broken", "marked", "ahead", "behind", "blanks", "left")
GOOD = {
    "word": "call", "parts": ["x", "y"], "broken": True, "marked": True,
    "ahead": "up", "behind": "down", "blanks": 2, "left": True,
}


def plainly_name(value):
    if type(value) is not str or not 1 <= len(value) <= 6:
        return False
    return all(letter in "abcdefghijklmnopqrstuvwxyz" for letter in value)


def plainly_right(name, value):
    """Whether a value may stand for the argument with this name."""
    if name == "word":
        return plainly_name(value)
    if name == "parts":
        return type(value) in (list, tuple) and len(value) > 0 and all(plainly_name(one) for one in value)
    if name in ("ahead", "behind"):
        return plainly_name(value) or (type(value) is str and value == "")
    if name == "blanks":
        return type(value) is int and value in (0, 1, 2)
    return type(value) is bool


def text_of(one):
    return str(Program([one]))


class MakingTest(unittest.TestCase):
    def wrong(self, word, /, *args, **named):
        with self.assertRaises(InvalidPiece) as caught:
            Piece(*args, **named)
        self.assertEqual(caught.exception.word, word)

    def test_attributes(self):
        one = Piece("call", ["x", "y"], True, True, "up", "down", 2, True)
        self.assertEqual([getattr(one, name) for name in NAMES],
                         ["call", ("x", "y"), True, True, "up", "down", 2, True])

    def test_by_name_and_defaults(self):
        one = Piece(parts=("x",), word="call")
        self.assertEqual([getattr(one, name) for name in NAMES], ["call", ("x",), False, False, "", "", 0, False])
        self.assertEqual(Piece(**GOOD), Piece("call", ["x", "y"], True, True, "up", "down", 2, True))

    def test_each_argument_of_any_value(self):
        for name in NAMES:
            for value in any_values():
                told = {**GOOD, name: value}
                if plainly_right(name, value):
                    kept = getattr(Piece(**told), name)
                    self.assertEqual(kept, tuple(value) if name == "parts" else value)
                else:
                    self.wrong(name, **told)

    def test_names(self):
        for word in ("a", "z", "abcdef", "zzzzzz"):
            self.assertEqual(Piece(word, [word], ahead=word, behind=word).word, word)
        for word in ("", "abcdefg", "A", "a1", "a b", "a\n", "\u00e4", "`", "{"):
            self.wrong("word", word, ["a"])
            self.wrong("parts", "a", ["a", word])

    def test_no_items(self):
        for parts in ([], (), "abc", "a", {"a": 1}, {"a"}, None, iter(["a"])):
            self.wrong("parts", "a", parts)

    def test_a_bool_is_no_integer_and_an_integer_no_bool(self):
        self.wrong("blanks", "a", ["b"], blanks=True)
        self.wrong("blanks", "a", ["b"], blanks=False)
        for name in ("broken", "marked", "left"):
            self.wrong(name, "a", ["b"], **{name: 0})
            self.wrong(name, "a", ["b"], **{name: 1})

    def test_blanks(self):
        for blanks in (-1, 3, 100, "1", None):
            self.wrong("blanks", "a", ["b"], blanks=blanks)

    def test_the_first_wrong_one_is_told(self):
        for first in range(len(NAMES)):
            for second in range(first, len(NAMES)):
                told = {**GOOD, NAMES[first]: 7, NAMES[second]: 7}
                self.wrong(NAMES[first], **told)
            self.wrong(NAMES[first], **{**GOOD, **{name: -1 for name in NAMES[first:]}})

    def test_more_items_than_the_limit_are_no_error(self):
        self.assertEqual(len(Piece("a", ["b"] * 12).parts), 12)

    def test_a_list_that_is_changed_afterwards(self):
        parts = ["x", "y"]
        one = Piece("a", parts)
        parts.append("z")
        parts[0] = 5
        self.assertEqual(one.parts, ("x", "y"))
        self.assertIsInstance(one.parts, tuple)

    def test_the_argument_is_not_changed(self):
        parts = ["x", "y"]
        Piece("a", parts).but(parts=parts)
        self.assertEqual(parts, ["x", "y"])

    def test_not_iterable(self):
        with self.assertRaises(TypeError):
            iter(piece())
        with self.assertRaises(TypeError):
            "a" in piece()
        with self.assertRaises(TypeError):
            list(piece())


class ButTest(unittest.TestCase):
    def test_each_argument(self):
        one = Piece("a", ["b"])
        for name in NAMES:
            other = one.but(**{name: GOOD[name]})
            self.assertEqual(other, Piece(**{"word": "a", "parts": ["b"], name: GOOD[name]}))
            self.assertEqual(one, Piece("a", ["b"]))

    def test_all_and_none(self):
        self.assertEqual(Piece("a", ["b"]).but(**GOOD), Piece(**GOOD))
        self.assertEqual(Piece(**GOOD).but(), Piece(**GOOD))

    def test_back_to_the_defaults(self):
        other = Piece(**GOOD).but(broken=False, marked=False, ahead="", behind="", blanks=0, left=False)
        self.assertEqual(other, Piece("call", ["x", "y"]))

    def test_any_values(self):
        for name in NAMES:
            for value in any_values():
                if plainly_right(name, value):
                    continue
                with self.assertRaises(InvalidPiece) as caught:
                    Piece(**GOOD).but(**{name: value})
                self.assertEqual(caught.exception.word, name)

    def test_the_order_of_errors_is_that_of_the_arguments(self):
        for first in range(len(NAMES)):
            for second in range(first + 1, len(NAMES)):
                with self.assertRaises(InvalidPiece) as caught:
                    Piece(**GOOD).but(**{NAMES[second]: None, NAMES[first]: None})
                self.assertEqual(caught.exception.word, NAMES[first])

    def test_a_list_that_is_changed_afterwards(self):
        parts = ["x"]
        one = piece().but(parts=parts)
        parts.clear()
        self.assertEqual(one.parts, ("x",))


class EqualityTest(unittest.TestCase):
    def test_equal(self):
        self.assertTrue(Piece(**GOOD) == Piece(**{**GOOD, "parts": ("x", "y")}))
        self.assertFalse(Piece(**GOOD) != Piece(**GOOD))

    def test_unlike_in_one_attribute(self):
        unlike = {
            "word": "cal", "parts": ["x", "z"], "broken": False, "marked": False,
            "ahead": "", "behind": "up", "blanks": 1, "left": False,
        }
        for name in NAMES:
            self.assertFalse(Piece(**GOOD) == Piece(**{**GOOD, name: unlike[name]}), name)
            self.assertTrue(Piece(**GOOD) != Piece(**{**GOOD, name: unlike[name]}), name)

    def test_objects_of_other_classes(self):
        one = Piece("a", ["b"])
        for value in [*any_values(), Foreign(), object(), Program([one]), Row([], ["mark"]), Tool(), [one]]:
            if not isinstance(value, Piece):
                self.assertIs(one == value, False)
                self.assertIs(one != value, True)


class RowsTest(unittest.TestCase):
    def test_one_row(self):
        self.assertEqual(text_of(Piece("call", ["a"])), "call(a)")
        self.assertEqual(text_of(Piece("call", ["a", "b", "c"])), "call(a, b, c)")
        self.assertEqual(text_of(Piece("call", ["a", "b"], left=True)), "!call(a, b)")
        self.assertEqual(text_of(Piece("call", ["a", "b"], marked=True)), "call(a, b,)")
        self.assertEqual(text_of(Piece("call", ["a", "b"], behind="x")), "call(a, b)  # x")
        self.assertEqual(text_of(Piece("f", ["a"], False, True, "up", "x", 2, True)), "\n\n# up\n!f(a,)  # x")

    def test_broken(self):
        self.assertEqual(text_of(Piece("call", ["a"], True)), "call(\n  a\n)")
        self.assertEqual(text_of(Piece("call", ["a"], True, True)), "call(\n  a,\n)")
        self.assertEqual(text_of(Piece("call", ["a", "b", "c"], True)), "call(\n  a,\n  b,\n  c\n)")
        self.assertEqual(text_of(Piece("call", ["a", "b"], True, True)), "call(\n  a,\n  b,\n)")
        self.assertEqual(text_of(Piece("f", ["a", "b"], True, False, "up", "x", 1, True)),
                         "\n# up\n!f(\n  a,\n  b\n)  # x")

    def test_blank_rows_and_remark_ahead(self):
        self.assertEqual(text_of(Piece("f", ["a"], blanks=1)), "\nf(a)")
        self.assertEqual(text_of(Piece("f", ["a"], blanks=2)), "\n\nf(a)")
        self.assertEqual(text_of(Piece("f", ["a"], ahead="up")), "# up\nf(a)")
        self.assertEqual(text_of(Piece("f", ["a"], ahead="up", blanks=1)), "\n# up\nf(a)")

    def test_bare(self):
        self.assertEqual(Piece("call", ["a"], behind="x").bare, 7)
        self.assertEqual(Piece("call", ["a", "bcd"]).bare, 12)
        self.assertEqual(Piece("call", ["a", "bcd"], left=True).bare, 13)

    def test_bare_is_the_length_of_the_row_without_mark_and_remarks(self):
        for one in many_pieces():
            row = text_of(one.but(broken=False, marked=False, ahead="", behind="", blanks=0))
            self.assertEqual(one.bare, len(row))
            self.assertNotIn("\n", row)
