"""[10], [11] and the words of [9]: tools; [2] and [3] as far as tools show them."""

import itertools
import unittest

from laytwice.errors import InvalidRow, InvalidTool, NoRow
from laytwice.tools import Row, Tool
from tests.samples import Foreign, any_values

TESTS = ("broken", "marked", "left", "ahead", "behind", "blank", "long", "first", "afterbroken", "afterbehind")
DEEDS = ("break", "join", "mark", "unmark", "lift", "lower", "space", "close")
ALL_TESTS = (*TESTS, *["not " + test for test in TESTS])


def plainly_tests(value):
    return type(value) in (list, tuple) and all(type(one) is str and one in ALL_TESTS for one in value)


def plainly_deeds(value):
    return type(value) in (list, tuple) and len(value) > 0 and all(type(one) is str and one in DEEDS for one in value)


def many_rows():
    """Rows of all kinds."""
    tests = [(), *[(test,) for test in ALL_TESTS], ("long", "not left"), ("long", "long"), ("left", "not left", "first")]
    deeds = [*[(deed,) for deed in DEEDS], ("break", "mark"), ("mark", "mark", "lift", "close")]
    return [Row(asked, done) for asked in tests for done in deeds]


class RowTest(unittest.TestCase):
    def wrong(self, part, /, *args, **named):
        with self.assertRaises(InvalidRow) as caught:
            Row(*args, **named)
        self.assertEqual(caught.exception.part, part)

    def test_attributes(self):
        row = Row(["long", "not left"], ["break", "mark"])
        self.assertEqual((row.tests, row.deeds), (("long", "not left"), ("break", "mark")))
        self.assertEqual(Row(deeds=("join",)).tests, ())
        self.assertEqual(Row(tests=[], deeds=["join"]).deeds, ("join",))
        self.assertIsInstance(Row([], ["join"]).tests, tuple)
        self.assertIsInstance(row.deeds, tuple)

    def test_all_words(self):
        for test in ALL_TESTS:
            self.assertEqual(Row([test], ["break"]).tests, (test,))
        for deed in DEEDS:
            self.assertEqual(Row([], [deed]).deeds, (deed,))

    def test_wrong_words(self):
        for test in ("", "not", "not ", "not not long", "not  long", "notlong", "Long", " long", "long ", "long\n",
                     "break", "after", "blanks", "after broken", "no long", "long and left", "if long"):
            self.wrong("tests", [test], ["break"])
            self.wrong("tests", ["long", test], ["break"])
        for deed in ("", "long", "not break", "Break", " break", "break ", "breaks", "broken", "break then mark", "do break"):
            self.wrong("deeds", ["long"], [deed])
            self.wrong("deeds", ["long"], ["break", deed])

    def test_no_deeds(self):
        self.wrong("deeds")
        self.wrong("deeds", ["long"])
        self.wrong("deeds", ["long"], [])
        self.wrong("deeds", [], ())

    def test_any_values(self):
        for value in any_values():
            if not plainly_tests(value):
                self.wrong("tests", value, ["break"])
                self.wrong("tests", tests=value, deeds=value)
            if not plainly_deeds(value):
                self.wrong("deeds", ["long"], value)
            if type(value) is not str or value not in ALL_TESTS:
                self.wrong("tests", ["long", value], ["break"])
            if type(value) is not str or value not in DEEDS:
                self.wrong("deeds", ["long"], ("break", value))

    def test_no_sequence(self):
        for value in ("long", {"long": 1}, {"long"}, iter(["long"])):
            self.wrong("tests", value, ["break"])
        for value in ("break", {"break": 1}, {"break"}, iter(["break"])):
            self.wrong("deeds", [], value)

    def test_the_tests_are_told_ahead_of_the_deeds(self):
        self.wrong("tests", None, None)
        self.wrong("tests", ["break"], ["long"])
        self.wrong("tests", deeds=[], tests=0)

    def test_more_than_the_limits_is_no_error(self):
        row = Row(["long"] * 7, ["break"] * 7)
        self.assertEqual((len(row.tests), len(row.deeds)), (7, 7))

    def test_lists_that_are_changed_afterwards(self):
        tests, deeds = ["long"], ["break"]
        row = Row(tests, deeds)
        tests.append("left")
        deeds[0] = "join"
        self.assertEqual((row.tests, row.deeds), (("long",), ("break",)))

    def test_text(self):
        self.assertEqual(str(Row([], ["join"])), "do join")
        self.assertEqual(str(Row([], ["join", "mark", "lift"])), "do join then mark then lift")
        self.assertEqual(str(Row(["long"], ["join"])), "if long do join")
        self.assertEqual(str(Row(["long", "not left"], ["break", "mark"])), "if long and not left do break then mark")

    def test_equality(self):
        rows = many_rows()
        for at, one in enumerate(rows):
            for number, other in enumerate(rows):
                self.assertIs(one == other, at == number)
                self.assertIs(one != other, at != number)
        self.assertTrue(Row(["long"], ["join"]) == Row(("long",), ("join",)))

    def test_objects_of_other_classes(self):
        row = Row([], ["break"])
        for value in [*any_values(), Foreign(), object(), str(row), Tool([row])]:
            if not isinstance(value, Row):
                self.assertIs(row == value, False)
                self.assertIs(row != value, True)

    def test_not_iterable(self):
        for use in (iter, list, tuple, lambda row: "long" in row):
            with self.assertRaises(TypeError):
                use(Row(["long"], ["break"]))


class ToolTest(unittest.TestCase):
    def wrong(self, part, /, *args, **named):
        with self.assertRaises(InvalidRow) as caught:
            Tool(*args, **named)
        self.assertEqual(caught.exception.part, part)

    def test_attributes(self):
        row = Row([], ["break"])
        self.assertEqual((Tool().rows, Tool().sorts), ((), False))
        self.assertEqual((Tool([row], True).rows, Tool([row], True).sorts), ((row,), True))
        self.assertEqual(Tool(sorts=False, rows=(row, row)).rows, (row, row))
        self.assertIsInstance(Tool([row]).rows, tuple)

    def test_any_values(self):
        for value in any_values():
            if not isinstance(value, (list, tuple)) or not all(isinstance(one, Row) for one in value):
                self.wrong("rows", value)
                self.wrong("rows", rows=value, sorts=value)
            if not isinstance(value, Row):
                self.wrong("rows", [Row([], ["break"]), value])
            if not isinstance(value, bool):
                self.wrong("sorts", [], value)
                self.wrong("sorts", sorts=value)

    def test_rows_are_told_ahead_of_sorts(self):
        self.wrong("rows", None, None)
        self.wrong("rows", [1], 1)

    def test_no_sequence(self):
        for value in (iter([]), {}, {0}, range(0), "", b""):
            self.wrong("rows", value)

    def test_more_rows_than_the_limit_are_no_error(self):
        self.assertEqual(len(Tool([Row([], ["break"])] * 15)), 15)

    def test_a_list_that_is_changed_afterwards(self):
        rows = [Row([], ["break"])]
        tool = Tool(rows)
        rows.append(Row([], ["join"]))
        rows[0] = None
        self.assertEqual(tool.rows, (Row([], ["break"]),))

    def test_len_and_index(self):
        rows = many_rows()[:5]
        self.assertEqual((len(Tool()), len(Tool(rows))), (0, 5))
        self.assertEqual([Tool(rows)[at] for at in range(5)], rows)

    def test_without(self):
        rows = many_rows()[:4]
        for sorts in (False, True):
            tool = Tool(rows, sorts)
            for at in range(4):
                less = tool.without(at)
                self.assertEqual(less.rows, tuple(rows[:at] + rows[at + 1:]))
                self.assertIs(less.sorts, sorts)
                self.assertEqual(tool.without(at=at), less)
            self.assertEqual(tool, Tool(rows, sorts))

    def test_numbers_of_no_row(self):
        for many in (0, 1, 3):
            tool = Tool(many_rows()[:many])
            for at in (many, many + 1, -1, -2, -3, 10 ** 30, -10 ** 30):
                with self.assertRaises(NoRow) as caught:
                    tool[at]
                self.assertEqual(caught.exception.at, at)
                with self.assertRaises(NoRow) as caught:
                    tool.without(at)
                self.assertEqual(caught.exception.at, at)

    def test_not_iterable(self):
        for tool in (Tool(), Tool([Row([], ["break"])])):
            for use in (iter, list, tuple, sorted, set, enumerate, zip, lambda one: Row([], ["break"]) in one):
                with self.assertRaises(TypeError):
                    use(tool)

    def test_sum(self):
        one, other = Row([], ["break"]), Row(["long"], ["mark"])
        for left, right in itertools.product((False, True), repeat=2):
            p, q = Tool([one, other], left), Tool([other], right)
            self.assertEqual((p + q).rows, (one, other, other))
            self.assertIs((p + q).sorts, left)
            self.assertEqual((p, q), (Tool([one, other], left), Tool([other], right)))

    def test_sum_in_place_is_a_new_object(self):
        p = q = Tool([Row([], ["break"])], True)
        p += Tool([Row([], ["join"])])
        self.assertEqual((len(p), p.sorts, len(q)), (2, True, 1))
        self.assertIsNot(p, q)

    def test_sum_with_something_else(self):
        for value in ([], (), Row([], ["break"]), None, 1, "tool"):
            with self.assertRaises(TypeError):
                Tool() + value
            with self.assertRaises(TypeError):
                value + Tool()

    def test_equality(self):
        one, other = Row([], ["break"]), Row(["long"], ["mark"])
        lists = [[], [one], [other], [one, other], [other, one], [one, one]]
        tools = [Tool(rows, sorts) for rows in lists for sorts in (False, True)]
        for at, p in enumerate(tools):
            for number, q in enumerate(tools):
                self.assertIs(p == q, at == number)
                self.assertIs(p != q, at != number)
        self.assertTrue(Tool([Row(["long"], ["mark"])]) == Tool((Row(("long",), ("mark",)),)))

    def test_objects_of_other_classes(self):
        for tool in (Tool(), Tool([Row([], ["break"])])):
            for value in [*any_values(), Foreign(), object(), str(tool), tool.rows]:
                if not isinstance(value, Tool):
                    self.assertIs(tool == value, False)
                    self.assertIs(tool != value, True)


class TextTest(unittest.TestCase):
    def wrong(self, at, text):
        with self.assertRaises(InvalidTool) as caught:
            Tool.read(text)
        self.assertEqual(caught.exception.at, at, text)

    def test_text(self):
        self.assertEqual(str(Tool()), "tool")
        self.assertEqual(str(Tool([], True)), "tool sorts")
        rows = [Row(["long", "not left"], ["break", "mark"]), Row([], ["close"])]
        self.assertEqual(str(Tool(rows)), "tool\nif long and not left do break then mark\ndo close")
        self.assertEqual(str(Tool(rows, True)), "tool sorts\nif long and not left do break then mark\ndo close")

    def test_read(self):
        rows = (Row(["long", "not left"], ["break", "mark"]), Row([], ["close"]))
        tool = Tool.read("tool sorts\nif long and not left do break then mark\ndo close")
        self.assertEqual((tool.rows, tool.sorts), (rows, True))
        self.assertIs(type(tool), Tool)
        self.assertIs(Tool.read("tool\ndo close").sorts, False)
        self.assertEqual(Tool.read(text="tool"), Tool())

    def test_read_what_is_written(self):
        rows = many_rows()
        for sorts in (False, True):
            self.assertEqual(Tool.read(str(Tool([], sorts))), Tool([], sorts))
            for at in range(len(rows)):
                tool = Tool(rows[at:at + 3], sorts)
                self.assertEqual(Tool.read(str(tool)), tool)
                self.assertEqual([row.tests for row in Tool.read(str(tool)).rows], [row.tests for row in tool.rows])
                self.assertEqual([row.deeds for row in Tool.read(str(tool)).rows], [row.deeds for row in tool.rows])

    def test_no_string(self):
        for value in any_values():
            if not isinstance(value, str):
                self.wrong(0, value)
        self.wrong(0, b"tool")

    def test_wrong_first_lines(self):
        for line in ("", " ", "Tool", "tool ", " tool", "tools", "tool sort", "tool  sorts", "sorts", "tool sorts ",
                     "do break", "tool\r"):
            self.wrong(0, line)
            self.wrong(0, f"{line}\ndo break")
            self.wrong(0, f"{line}\nwrong")

    def test_wrong_lines(self):
        for line in ("", " ", "do", "do ", "break", "tool", "tool sorts", "Do break", " do break", "do break ", "do  break",
                     "do long", "do break then", "do break then ", "do then break", "do break mark", "do break and mark",
                     "do break  then mark", "do break do mark", "do break,mark", "do not break", "do breakthen mark",
                     "if", "if ", "if long", "if do break", "if  do break", "if long break", "if longdo break",
                     "iflong do break", "long do break", "not long do break", "if long  do break", "if  long do break",
                     "if long and do break", "if and long do break", "if long left do break", "if long then left do break",
                     "if long or left do break", "if not do break", "if not not long do break", "if break do long",
                     "if long do break then", "if long do", "if long do ", "If long do break", "if if long do break",
                     "if long and  left do break", "if long if left do break", "if long do break\r", "dodo break",
                     "if long and not  left do break", "if long do do break"):
            self.wrong(1, f"tool\n{line}")
            self.wrong(2, f"tool sorts\nif long do break\n{line}\ndo break\nwrong")

    def test_blank_last_line(self):
        self.wrong(1, "tool\n")
        self.wrong(2, "tool sorts\ndo break\n")

    def test_lines_out_in_or_twice(self):
        lines = ["tool", "do break", "if long do mark"]
        self.wrong(0, "\n".join(lines[1:]))
        self.wrong(1, "\n".join(["tool", *lines]))
        self.wrong(1, "\n".join(["tool", "", *lines[1:]]))
        self.assertEqual(len(Tool.read("\n".join(["tool", *lines[1:], *lines[1:]]))), 4)
