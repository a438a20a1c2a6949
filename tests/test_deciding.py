"""[5], [15], [16], [17] and [18]: goals, examples, rows that come, reach; [2] and [4] as far as these show them."""

import itertools
import random
import unittest

from laytwice.deciding import comes, example, goals, happens, reach
from laytwice.errors import InvalidGoal, NoRow, Refused
from laytwice.papers import paper, paper_holds
from laytwice.pieces import Piece
from laytwice.programs import Program
from laytwice.running import run
from laytwice.tools import Row, Tool
from tests import plain
from tests.samples import any_values

# Tools, the goals that happen for them, and the fewest pieces for each of these.
KNOWN = (
    ("tool", {"over": 1}),
    ("tool sorts", {"over": 1}),
    ("tool\nif long do break then mark\nif marked do break\nif not long and not marked do join", {}),
    ("tool\nif marked do break\nif long do mark", {"again": 1, "over": 1}),
    ("tool sorts\nif marked do break\nif long do mark", {"again": 1, "over": 1}),
    ("tool sorts\ndo close", {"again": 2, "order": 2, "over": 1}),
    ("tool\ndo close", {"over": 1}),
    ("tool\ndo break", {}),
    ("tool sorts\ndo break then lower then close", {"again": 2, "order": 2}),
    ("tool sorts\ndo break then lift then space", {}),
    ("tool sorts\nif not left do space", {"over": 1}),
    ("tool sorts\ndo break\nif first do close", {"again": 2, "order": 2}),
    ("tool sorts\ndo break\nif first do close\nif not first do space", {}),
    ("tool\nif long do break", {}),
    ("tool\nif long and not left do break", {"over": 1}),
    ("tool\nif first and long do break", {"over": 2}),
    ("tool\nif long do break\ndo mark", {"again": 1, "over": 1}),
    ("tool\ndo mark\nif long do break", {}),
    ("tool\ndo break\nif marked do lift\ndo mark", {"again": 1, "wander": 1}),
    ("tool\ndo break\nif afterbehind do lower", {}),
    ("tool\nif afterbroken do lift\nif marked do break\ndo mark", {"again": 1, "over": 1, "wander": 2}),
    ("tool\ndo break\nif afterbehind do lift\nif first do lower", {}),
    ("tool\ndo break then lift then lower\nif behind do lift\nif ahead do lower", {}),
    ("tool\ndo break\nif afterbroken do mark\nif marked do space", {}),
    ("tool\ndo break\nif marked do space\nif afterbroken do mark", {"again": 2}),
    (
        "tool sorts\ndo break then mark then space\nif first do space\nif afterbroken and blank do lower then space\n"
        "if afterbroken do close",
        {"again": 3, "order": 3},
    ),
    (
        "tool sorts\nif left and not first and not afterbroken do break then lift then mark\n"
        "if long do lower then join then space\nif afterbehind and broken do lower then space",
        {"again": 2, "over": 1, "wander": 3},
    ),
    (
        "tool sorts\ndo unmark\nif afterbehind and marked do unmark then mark then join\ndo space then mark\n"
        "if first do break then lower then space\nif long and not afterbroken and marked do lower then close",
        {"again": 4, "order": 4, "over": 2},
    ),
)

REACHES = (
    ("tool", 0),
    ("tool\ndo mark", 0),
    ("tool\nif long do break then mark\nif marked do break\nif not long and not marked do join", 0),
    ("tool\nif first do break", 0),
    ("tool\nif afterbehind do break", 1),
    ("tool\nif afterbehind do mark", 1),
    ("tool\nif afterbroken do space", 1),
    ("tool\nif afterbroken do break", None),
    ("tool\nif afterbroken do join\nif not afterbroken do break", 0),
    ("tool\nif not left and afterbroken do join\nif not left and not afterbroken do break", None),
    ("tool\ndo break\nif afterbroken do mark", 0),
    ("tool\ndo break\nif not afterbroken do mark", 0),
    ("tool\nif not first do lower\nif afterbehind do lift", None),
    ("tool\ndo lift\nif afterbehind do break", 1),
    ("tool\nif afterbroken do space\nif afterbehind do break", 2),
    ("tool\nif afterbroken and afterbehind do space", 1),
    (
        "tool\nif not left do join then lift\nif not left and not behind and afterbroken and afterbehind do break\n"
        "if not left and not behind and afterbroken and not afterbehind do lower\nif not left and afterbehind do space",
        3,
    ),
)

NO_GOALS = (
    "Again", "again ", " again", "agai", "", "again order", "orders", "not over", ["again"], ("over",), [], 0, 1, True,
    None, b"again", {"again": 1}, 1.5,
)


def tools():
    return [Tool.read(text) for text, _ in KNOWN]


def few_forms(tool):
    """Forms that are unlike for a tool; without the others, a plain search is short enough."""
    text = str(tool)
    asked = {
        "broken": "broken" in text or "break" in text or "join" in text,
        "marked": "mark" in text,
        "ahead": "ahead" in text or "lift" in text or "lower" in text or tool.sorts,
        "behind": "behind" in text or "lift" in text or "lower" in text,
        "blank": "blank" in text or "space" in text or "close" in text or tool.sorts,
        "left": "left" in text,
    }
    found = []
    for form in plain.all_forms():
        size, broken, marked, ahead, behind, blanks, left = form
        needless = [not asked[word] and told for word, told in zip(
            ("broken", "marked", "ahead", "behind", "blank", "left"), (broken, marked, ahead, behind, blanks > 0, left),
        )]
        if not any(needless) and blanks < 2 and (size in ("wide", "over") or ("mark" in text and size == "even")):
            found.append(form)
    return found


def small_programs(forms, many, width, turned):
    """All programs of so many pieces with these forms, the words ascending or descending."""
    words = ["word", "work", "wort"][:many]
    if turned:
        words.reverse()
    ready = [[plain.piece_with(form, width, word, "r") for form in forms] for word in words]
    for pieces in itertools.product(*ready):
        yield Program(pieces)


class GoalsTest(unittest.TestCase):
    def test_known(self):
        for text, fewest in KNOWN:
            tool = Tool.read(text)
            self.assertEqual(goals(tool), tuple(sorted(fewest)), text)
            for goal in plain.GOALS:
                self.assertIs(happens(tool, goal), goal in fewest, (text, goal))
                found = example(tool, goal)
                self.assertEqual(None if found is None else len(found[1]), fewest.get(goal), (text, goal))

    def test_example_of_the_document(self):
        calm, hasty, sorter = [Tool.read(KNOWN[at][0]) for at in (2, 3, 5)]
        self.assertEqual((goals(calm), goals(hasty), goals(sorter)),
                         ((), ("again", "over"), ("again", "order", "over")))
        found = (len(example(hasty, "again")[1]), len(example(sorter, "order")[1]), example(calm, "again"))
        self.assertEqual(found, (1, 2, None))
        found = (reach(calm), reach(Tool.read("tool\nif afterbehind do break")),
                 reach(Tool.read("tool\nif afterbroken do break")))
        self.assertEqual(found, (0, 1, None))

    def test_an_example_shows_its_goal(self):
        for tool in [*tools(), *plain.DEEP, *plain.some_tools(200, 21, 6)]:
            for goal in plain.GOALS:
                found = example(tool, goal)
                if found is None:
                    continue
                width, program = found
                self.assertTrue(plain.meets(tool, goal, width, program), (str(tool), goal))
                once = run(tool, width, program)
                if goal == "again":
                    self.assertNotEqual(run(tool, width, once), once)
                if goal == "order":
                    keys = [[(one.word, one.parts) for one in run(tool, width, each).pieces] for each in (program, once)]
                    self.assertNotEqual(*keys)

    def test_kinds_of_examples(self):
        for tool in tools():
            for goal in goals(tool):
                found = example(tool, goal)
                self.assertIs(type(found), tuple)
                width, program = found
                self.assertIs(type(width), int)
                self.assertTrue(4 <= width <= 90)
                self.assertIs(type(program), Program)
                self.assertTrue(all(len(one.parts) <= 8 for one in program.pieces))
                self.assertEqual(Program.read(str(program)), program)

    def test_no_single_piece_where_an_example_has_more(self):
        pieces = [
            Piece("a", parts, broken, marked, ahead, behind, blanks, left)
            for parts, ahead, behind in itertools.product((("b",), ("b", "cc")), ("", "r"), ("", "s"))
            for broken, marked, left in itertools.product((False, True), repeat=3)
            for blanks in (0, 1, 2)
        ]
        for text, fewest in KNOWN:
            tool = Tool.read(text)
            for goal in plain.GOALS:
                self.assertFalse(plain.meets(tool, goal, 9, Program()))
                if fewest.get(goal, 9) > 1:
                    for one, width in itertools.product(pieces, (4, 6, 9, 13)):
                        self.assertFalse(plain.meets(tool, goal, width, Program([one])), (text, goal))

    def test_no_two_pieces_where_an_example_has_more(self):
        for text, fewest in KNOWN:
            tool = Tool.read(text)
            left = [goal for goal in plain.GOALS if fewest.get(goal, 9) > 2]
            forms = few_forms(tool)
            if len(left) == 0 or len(forms) > 70:
                continue
            for turned in (False, True):
                for program in small_programs(forms, 2, 24, turned):
                    for goal in left:
                        self.assertFalse(plain.meets(tool, goal, 24, program), (text, goal))

    def test_no_three_pieces_where_an_example_has_more(self):
        tool = Tool.read(KNOWN[-1][0])
        forms = [form for form in few_forms(tool) if form[0] == "wide" and not form[2]]
        for turned in (False, True):
            for program in small_programs(forms, 3, 24, turned):
                self.assertFalse(plain.meets(tool, "order", 24, program))

    def test_what_never_happens_is_not_met_by_chance(self):
        chance = random.Random(31)
        for tool in [*tools(), *plain.some_tools(60, 32, 6)]:
            never = [goal for goal in plain.GOALS if not happens(tool, goal)]
            for _ in range(25):
                program, width = plain.some_program(chance, 6), chance.randint(4, 16)
                for goal in never:
                    self.assertFalse(plain.meets(tool, goal, width, program), (str(tool), goal))

    def test_against_a_plain_machine(self):
        for tool in [*tools(), *plain.DEEP, *plain.some_tools(30, 33, 7)]:
            _, fewest = plain.Machine(tool).standings()
            self.assertEqual(goals(tool), tuple(sorted(fewest)), tool)
            for goal in plain.GOALS:
                found = example(tool, goal)
                self.assertEqual(None if found is None else len(found[1]), fewest.get(goal), (str(tool), goal))

    def test_the_order_needs_a_tool_that_sorts(self):
        for tool in plain.some_tools(40, 34):
            self.assertFalse(happens(Tool(tool.rows), "order"))

    def test_either_an_example_or_a_paper(self):
        for tool in [*tools(), *plain.DEEP, *plain.some_tools(100, 35, 10)]:
            for goal in plain.GOALS:
                found, table = example(tool, goal), paper(tool, goal)
                self.assertIs(happens(tool, goal), found is not None)
                self.assertIs(happens(tool, goal), table is None)
                self.assertIs(goal in goals(tool), found is not None)
                if table is not None:
                    self.assertTrue(paper_holds(tool, goal, table))

    def test_no_goal(self):
        tool = tools()[3]
        for value in [*any_values(), *NO_GOALS]:
            for asked in (happens, example, paper, lambda tool, goal: paper_holds(tool, goal, ())):
                with self.assertRaises(InvalidGoal):
                    asked(tool, value)
            with self.assertRaises(InvalidGoal):
                paper_holds(tool, value, value)

    def test_arguments_by_name(self):
        tool = tools()[3]
        self.assertIs(happens(goal="over", tool=tool), True)
        self.assertIs(happens(goal="order", tool=tool), False)
        self.assertEqual(len(example(goal="over", tool=tool)[1]), 1)
        self.assertEqual(goals(tool=tool), ("again", "over"))
        self.assertIs(comes(at=0, tool=tool), True)
        self.assertEqual(reach(tool=tool), 0)

    def test_the_same_call_gives_the_same(self):
        for tool in tools():
            first = [example(tool, goal) for goal in plain.GOALS], goals(tool), [paper(tool, goal) for goal in plain.GOALS]
            text = str(tool)
            goals(Tool.read("tool sorts\ndo lift then join"))
            again = [example(tool, goal) for goal in plain.GOALS], goals(tool), [paper(tool, goal) for goal in plain.GOALS]
            self.assertEqual(first, again)
            self.assertEqual(str(tool), text)

    def test_beyond_the_limits(self):
        tool = Tool([Row(["long"] * 7, ["break"] * 7)] * 14)
        self.assertEqual((goals(tool), reach(tool), comes(tool, 13)), ((), 0, True))


class ComesTest(unittest.TestCase):
    def check(self, expected, *rows):
        for first in ("tool", "tool sorts"):
            tool = Tool.read("\n".join([first, *rows]))
            found = [comes(tool, at) for at in range(len(tool))]
            self.assertEqual(found, expected)
            self.assertTrue(all(type(one) is bool for one in found))

    def test_always_and_never(self):
        self.check([True], "do mark")
        self.check([True, True], "if broken do mark", "if not broken do mark")
        self.check([False], "if broken and not broken do mark")
        self.check([False], "if first and afterbroken do mark")
        self.check([False], "if not left and first and left do mark")

    def test_behind_earlier_rows(self):
        self.check([True, False], "do break", "if not broken do mark")
        self.check([True, True], "if left do break", "if not broken do mark")
        self.check([True, False], "do close", "if blank do mark")
        self.check([True, False, True], "do break then mark", "if not marked do unmark", "if broken do join")
        self.check([True, False], "if long do unmark then lift then mark then break", "if long and not broken do join")

    def test_later_rows_do_not_count(self):
        self.check([False, True], "if broken and not broken do join", "do break")

    def test_only_behind_another_piece(self):
        self.check([True], "if not first do mark")
        self.check([True], "if afterbroken do mark")
        self.check([True, True], "if afterbehind and afterbroken do mark", "do lower")
        self.check([False, True], "if afterbroken do mark", "do join")
        self.check([False, True], "if not first and not afterbroken do mark", "do break")
        self.check([True, True], "if first do break", "if afterbroken and not broken do mark")

    def test_only_behind_several_pieces(self):
        self.check(
            [True, True, True, True],
            "do join", "if first do break", "if afterbroken do break then lift", "if afterbroken and afterbehind do mark",
        )
        # Only the piece behind the first one is broken, and only the one behind that one has this row.
        self.check([True, True, True, True], "do break then lift", "if first do join",
                   "if not first and not afterbroken do lower", "if afterbehind and not first do mark")
        self.check([True, True, True, False], "do break", "if first do join", "if not first do mark",
                   "if not first and not afterbroken and not marked do unmark")

    def test_only_where_a_remark_is_at_both_places(self):
        self.check([True, True, True], "do lift", "if behind do mark", "if afterbehind do space")
        self.check([True, False], "do lift", "if behind and not ahead do mark")

    def test_against_a_plain_machine(self):
        for tool in [*tools(), *plain.DEEP, *plain.some_tools(30, 41, 7)]:
            machine = plain.Machine(tool)
            for at in range(len(tool)):
                self.assertIs(comes(tool, at), machine.comes(at), (str(tool), at))

    def test_no_row(self):
        for tool in (Tool(), *tools()[2:4]):
            for at in (len(tool), len(tool) + 1, -1, -2, -len(tool) - 1, 10 ** 30, -10 ** 30):
                with self.assertRaises(NoRow) as caught:
                    comes(tool, at)
                self.assertEqual(caught.exception.at, at)


class ReachTest(unittest.TestCase):
    def test_known(self):
        for text, expected in REACHES:
            found = reach(Tool.read(text))
            self.assertEqual(found, expected, text)
            self.assertIs(type(found), type(expected))

    def test_against_a_plain_machine(self):
        for tool in [*plain.DEEP, *plain.some_tools(40, 51, 8)]:
            tool = Tool(tool.rows)
            self.assertEqual(reach(tool), plain.Machine(tool).reach(), tool)

    def test_a_piece_that_is_changed_lays_out_others_no_further(self):
        chance = random.Random(52)
        for text, expected in REACHES:
            tool = Tool.read(text)
            furthest = 0
            for _ in range(200):
                program, width, at = plain.some_program(chance), chance.randint(4, 16), chance.randint(0, 4)
                if at >= len(program):
                    continue
                pieces = list(program.pieces)
                pieces[at] = plain.some_piece(chance)
                one, other = run(tool, width, program).pieces, run(tool, width, Program(pieces)).pieces
                self.assertEqual(one[:at], other[:at])
                unlike = [behind for behind in range(len(one) - at) if one[at + behind] != other[at + behind]]
                furthest = max([furthest, *unlike])
            if expected is None:
                self.assertGreater(furthest, 3, text)
            elif expected < 3:
                self.assertEqual(furthest, expected, text)
            else:
                self.assertLessEqual(furthest, expected, text)

    def test_three_are_reached(self):
        tool = Tool.read(REACHES[-1][0])
        rest = [Piece("a", ["b"], behind="x"), Piece("a", ["b"], behind="x"), Piece("a", ["b"]), Piece("a", ["b"])]
        ahead = Piece("a", ["b"], broken=True, left=True)
        one = run(tool, 40, Program([ahead, *rest])).pieces
        other = run(tool, 40, Program([ahead.but(behind="y"), *rest])).pieces
        self.assertEqual([at for at in range(5) if one[at] != other[at]], [0, 1, 2, 3])

    def test_tools_that_sort(self):
        for text, _ in REACHES:
            with self.assertRaises(Refused) as caught:
                reach(Tool(Tool.read(text).rows, True))
            self.assertEqual(caught.exception.word, "sorts")
