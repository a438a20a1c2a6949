"""[21]: alike, parting, commute, crossing; [2] as far as these show it."""

import itertools
import random
import unittest

from laytwice.comparing import alike, commute, crossing, parting
from laytwice.errors import Refused
from laytwice.programs import Program
from laytwice.running import run
from laytwice.tools import Row, Tool
from tests import plain

# Rows of two tools that do not sort, and the fewest pieces that part them in one run; None if they are alike.
PARTINGS = (
    ("", "", None),
    ("", "do break", 1),
    ("if long do break then mark", "if long do break then mark", None),
    ("if long do break then mark", "if long do mark then break", None),
    # Rows twice and in another order.
    ("if marked do break", "if marked do break\nif marked do break", None),
    ("do mark", "do mark then mark", None),
    ("do break\ndo mark", "do mark\ndo break", None),
    ("if marked do break\ndo mark", "do mark\nif marked do break", 1),
    ("if marked do unmark\nif not marked do mark", "if not marked do mark\nif marked do unmark", 1),
    ("if left do break\nif not left do join", "if not left do join\nif left do break", None),
    # Tests in another order, or twice.
    ("if long and left do lift", "if left and long and left do lift", None),
    ("if long and not left do lift", "if long do lift", 1),
    # Rows that never come, or change nothing.
    ("do mark", "do mark\nif not marked do break", None),
    ("do mark", "if long and not long do break\ndo mark", None),
    ("", "if first and afterbroken do mark", None),
    ("do join", "do join\nif afterbroken do mark", None),
    ("if first do join", "if first do join\nif afterbroken do mark", 3),
    ("", "if broken do break\nif not marked do unmark\nif not blank do close", None),
    ("", "if behind and ahead do lift then lower", None),
    ("", "if not behind do lift\nif not ahead do lower", None),
    ("do space", "do space\nif not blank do break", None),
    # Only at one size, or with one remark.
    ("do unmark then lift", "do unmark then lift\nif not long do mark\nif not long do unmark", 1),
    ("if long and behind do lift", "if long do lift", None),
    ("if behind do lift\nif long do break", "if long do break\nif behind do lift", 1),
    ("if long do break", "if behind and long do break\nif not behind and long do break", None),
    ("if long and not behind do break", "if long do break", 1),
    ("if long and not marked and not behind do break", "if long and not behind do break", 1),
    ("if long do unmark\nif long do break", "if long do break\nif long do unmark", 1),
    # Only in blank rows.
    ("", "if blank do space", 1),
    ("do space", "if blank do space\nif not blank do space", None),
    ("do space", "if not blank do space", 1),
    ("do close then space", "do space", None),
    ("do close", "if blank do close", None),
    # Only in a second piece.
    ("", "if not first do mark", 2),
    ("do mark", "if first do mark", 2),
    ("", "if afterbroken do break", 2),
    ("", "if afterbroken do mark", 2),
    ("", "if afterbehind do space", 2),
    ("do lower", "do lower\nif afterbehind do mark", 2),
    ("do lift", "do lift\nif afterbehind and not behind do mark", 2),
    ("if afterbroken do join\nif not afterbroken do break", "if afterbroken do join\nif first do break", 3),
    # Only in a third one.
    (
        "if first do break", "if first do break\nif not afterbehind and not afterbroken and not first do unmark then close",
        3,
    ),
    ("if first do break\nif not first do join", "if not first and not afterbroken do mark\nif first do break\n"
     "if not first do join", 3),
    (
        "do join\nif first do break\nif afterbroken and left do break",
        "do join\nif first do break\nif afterbroken and left do break\nif not afterbroken and not first do space", 3,
    ),
    (
        "do unmark\nif first do join\nif not first do break\nif afterbroken do lower",
        "do unmark\nif first do join\nif not first do break\nif afterbroken do lower then mark", 3,
    ),
)

# Rows of two tools that do not sort, and the fewest pieces for which it matters which one runs first; None if never.
CROSSINGS = (
    ("", "", None),
    ("", "if long do break then mark", None),
    ("if marked do break\nif long do mark", "if marked do break\nif long do mark", None),
    ("if marked do unmark\nif not marked do mark", "if not marked do mark\nif marked do unmark", 1),
    ("if marked do break", "if broken do unmark", 1),
    ("do break", "do mark", None),
    ("do break", "do join", 1),
    ("do break then mark", "if left do space", None),
    ("if left do break", "if not left do join", None),
    ("if long do break", "do mark", 1),
    ("if long do break", "do break", None),
    ("if long and not marked do break", "do space", None),
    ("if long do space", "if behind do lift", 1),
    ("do lift", "do lower", 1),
    ("do space", "do close", 1),
    ("do space", "if blank do close", 1),
    ("if blank do space", "if blank do space", None),
    ("if blank do mark", "if blank do close", 1),
    ("if not broken do mark", "if marked do break", 1),
    ("if first do mark", "if not first do mark", None),
    ("if first do mark", "if not first do break", None),
    ("if first do break", "if afterbroken do mark", 2),
    ("if afterbroken do mark", "do break", 2),
    ("if afterbroken do mark", "if afterbehind do space", None),
    ("if afterbehind do mark", "do lift", 2),
    ("if afterbehind do mark", "do break", None),
    ("if afterbroken do break", "if afterbehind do break", 3),
    ("if afterbroken do lower", "if afterbehind do lift", 2),
    ("if afterbroken do mark", "if afterbehind do mark then join", 3),
    ("if afterbroken do mark", "if afterbehind do break", 3),
    ("if afterbroken do mark", "if not first do mark then break", None),
)

LOOSE = ("tool", "tool\ndo mark", "tool\ndo space", "tool\nif not first do mark", "tool\nif long do lift\ndo close")


def tool_of(rows, sorts=False):
    return Tool.read(("tool sorts" if sorts else "tool") + ("\n" + rows if rows else ""))


def fewest(found):
    return None if found is None else len(found[1])


def relatives(tool, chance):
    """Tools that are much like a tool, some of them alike."""
    found = [Tool(tool.rows + tool.rows, tool.sorts), Tool(tool.rows[::-1], tool.sorts)]
    if len(tool) > 0:
        at = chance.randrange(len(tool))
        row = tool[at]
        found.append(tool.without(at))
        found.append(Tool((*tool.rows[:at + 1], row, *tool.rows[at + 1:]), tool.sorts))
        for other in (Row(row.tests[1:], row.deeds), Row((*row.tests, "not first"), row.deeds),
                      Row((*row.tests, "afterbroken"), row.deeds), Row(row.tests, row.deeds + ("unmark",))):
            found.append(Tool((*tool.rows[:at], other, *tool.rows[at + 1:]), tool.sorts))
    return found


def few_forms(*tools):
    """Forms that are unlike for tools; without the others, a plain search is short enough."""
    text = "\n".join(map(str, tools))
    asked = {
        "broken": ("broken", "break", "join"), "marked": ("mark",), "ahead": ("ahead", "lift", "lower"),
        "behind": ("behind", "lift", "lower"), "blanks": ("blank", "space", "close"), "left": ("left",),
    }
    needed = [any(word in text for word in words) for words in asked.values()]
    sizes = ("over", "even", "tight", "wide") if "long" in text else ("wide",)
    return [
        form for form in plain.all_forms()
        if form[0] in sizes and all(need or not told for need, told in zip(needed, form[1:]))
    ]


def small_programs(forms, many, width):
    ready = [[plain.piece_with(form, width, word, "r") for form in forms] for word in ("word", "work", "wort")[:many]]
    for pieces in itertools.product(*ready):
        yield Program(pieces)


class Comparing:
    """What is tested of `alike` with `parting`, and of `commute` with `crossing`."""

    def check(self, p, q, expected):
        for one, other in ((p, q), (q, p)):
            found = self.told(one, other)
            self.assertEqual(fewest(found), expected, (str(one), str(other)))
            self.assertIs(self.asked(one, other), expected is None)
            if found is not None:
                self.shows(one, other, *found)

    def test_known(self):
        for one, other, expected in self.known:
            self.check(tool_of(one), tool_of(other), expected)

    def test_no_single_piece_where_more_are_told(self):
        for one, other, expected in self.known:
            p, q = tool_of(one), tool_of(other)
            self.assertTrue(self.same(p, q, 9, Program()))
            for form, width in itertools.product(plain.all_forms(), (15, 22)) if expected != 1 else ():
                program = Program([plain.piece_with(form, width, "word", "r")])
                self.assertTrue(self.same(p, q, width, program), (one, other))

    def test_no_two_and_no_three_pieces_where_more_are_told(self):
        for one, other, expected in self.known:
            p, q = tool_of(one), tool_of(other)
            forms = few_forms(p, q)
            if expected in (None, 3) and len(forms) <= 40:
                for program in small_programs(forms, 2, 20):
                    self.assertTrue(self.same(p, q, 20, program), (one, other))
            if expected is None and len(forms) < 9:
                for program in small_programs(forms, 3, 20):
                    self.assertTrue(self.same(p, q, 20, program), (one, other))

    def test_kinds_and_names(self):
        one, other = tool_of("if afterbroken do mark"), tool_of("do break")
        found = self.told(q=other, p=one)
        self.assertEqual(found, self.told(one, other))
        self.assertIs(type(found), tuple)
        width, program = found
        self.assertIs(type(width), int)
        self.assertTrue(4 <= width <= 90)
        self.assertIs(type(program), Program)
        self.assertEqual(Program.read(str(program)), program)
        self.assertIs(self.asked(q=other, p=one), False)
        self.assertIs(self.asked(q=one, p=one), True)
        self.assertIsNone(self.told(one, one))


class AlikeTest(Comparing, unittest.TestCase):
    known = PARTINGS
    asked, told, same = staticmethod(alike), staticmethod(parting), staticmethod(plain.same_in_one_run)

    def shows(self, one, other, width, program):
        self.assertNotEqual(run(one, width, program), run(other, width, program))
        self.assertFalse(self.same(one, other, width, program), (str(one), str(other)))

    def test_example_of_the_document(self):
        one, other = tool_of("if marked do break"), tool_of("if broken do unmark")
        found = (commute(one, other), len(crossing(one, other)[1]), alike(one, one + one), alike(one, other))
        self.assertEqual(found, (False, 1, True, False))

    def test_known_and_both_sort(self):
        for one, other, expected in PARTINGS:
            self.check(tool_of(one, True), tool_of(other, True), expected)

    def test_known_and_one_sorts(self):
        for one, other, expected in PARTINGS:
            self.check(tool_of(one), tool_of(other, True), 1 if expected == 1 else 2)
            self.check(tool_of(one, True), tool_of(other), 1 if expected == 1 else 2)

    def test_one_sorts_and_all_pieces_are_fences_behind(self):
        for rows in ("do space", "do space then lift", "if afterbroken do space", "do break then mark then close"):
            self.check(tool_of(rows), tool_of(rows, True), 2)

    def test_alike_to_itself(self):
        for tool in [*plain.DEEP, *plain.some_tools(60, 71, 8)]:
            self.check(tool, tool, None)
            self.check(tool, Tool.read(str(tool)), None)
            self.check(tool, Tool(tool.rows, not tool.sorts), 2)

    def test_what_is_alike_makes_the_same_by_chance(self):
        chance = random.Random(72)
        told = {True: 0, False: 0}
        for tool in plain.some_tools(60, 73, 6):
            for other in relatives(tool, chance):
                told[alike(tool, other)] += 1
                if alike(tool, other):
                    for _ in range(4):
                        program, width = plain.some_program(chance, 5), chance.randint(4, 16)
                        self.assertTrue(plain.same_in_one_run(tool, other, width, program), (str(tool), str(other)))
        self.assertGreater(min(told.values()), 60)

    def test_against_plain_machines(self):
        chance = random.Random(74)
        told = set()
        for tool in [*plain.DEEP[:2], *plain.some_tools(6, 75, 6)]:
            machine = plain.Machine(tool)
            for other in relatives(tool, chance):
                expected = plain.fewest_parting(machine, plain.Machine(other))
                told.add(expected)
                self.check(tool, other, expected)
        self.assertLessEqual({None, 1, 2}, told)

    def test_beyond_the_limits(self):
        long_tool = Tool([Row(["long"] * 7, ["break"] * 7)] * 14)
        self.check(long_tool, tool_of("if long do break"), None)
        self.check(long_tool, tool_of("if long and not first do break"), 1)


class CommuteTest(Comparing, unittest.TestCase):
    known = CROSSINGS
    asked, told, same = staticmethod(commute), staticmethod(crossing), staticmethod(plain.same_in_either_order)

    def shows(self, one, other, width, program):
        behind = [run(other, width, run(one, width, program)), run(one, width, run(other, width, program))]
        self.assertNotEqual(*behind)
        self.assertFalse(self.same(one, other, width, program), (str(one), str(other)))

    def test_a_tool_commutes_with_itself(self):
        for tool in [*plain.DEEP, *plain.some_tools(60, 76, 8)]:
            tool = Tool(tool.rows)
            self.check(tool, tool, None)
            self.check(tool, Tool(), None)
            self.check(tool, Tool.read(str(tool)), None)

    def test_what_commutes_makes_the_same_by_chance(self):
        chance = random.Random(77)
        told = {True: 0, False: 0}
        tools = [Tool(tool.rows) for tool in plain.some_tools(24, 78, 3)]
        for one, other in itertools.combinations(tools, 2):
            told[commute(one, other)] += 1
            if commute(one, other):
                for _ in range(4):
                    program, width = plain.some_program(chance, 5), chance.randint(4, 16)
                    self.assertTrue(plain.same_in_either_order(one, other, width, program), (str(one), str(other)))
        self.assertGreater(min(told.values()), 60)

    def test_against_plain_machines(self):
        told = set()
        tools = [tool_of(rows) for rows in ("if afterbroken do mark", "if afterbehind do break", "do lift")]
        tools += [Tool(tool.rows) for tool in [plain.DEEP[0], *plain.some_tools(9, 79, 3)]]
        for one, other in itertools.combinations([plain.Machine(tool) for tool in tools], 2):
            expected = plain.fewest_crossing(one, other)
            told.add(expected)
            self.check(one.tool, other.tool, expected)
        self.assertLessEqual({None, 1, 2, 3}, told)

    def test_refused_if_one_sorts(self):
        for one, other in itertools.product(LOOSE, repeat=2):
            p, q = Tool.read(one), Tool.read(other)
            for left, right in ((Tool(p.rows, True), q), (p, Tool(q.rows, True)), (Tool(p.rows, True), Tool(q.rows, True))):
                for asked in (commute, crossing):
                    with self.assertRaises(Refused) as caught:
                        asked(left, right)
                    self.assertEqual(caught.exception.word, "sorts")

    def test_the_same_call_gives_the_same(self):
        one, other = tool_of("if afterbroken do mark"), tool_of("do break")
        texts = str(one), str(other)
        first = parting(one, other), crossing(one, other), alike(one, other), commute(one, other)
        parting(other, tool_of("do lift", True))
        crossing(plain.DEEP[0], other)
        self.assertEqual((parting(one, other), crossing(one, other), alike(one, other), commute(one, other)), first)
        self.assertEqual((str(one), str(other)), texts)

    def test_beyond_the_limits(self):
        long_tool = Tool([Row(["long"] * 7, ["break"] * 7)] * 14)
        self.check(long_tool, tool_of("do space"), None)
        self.check(long_tool, tool_of("do mark"), 1)
