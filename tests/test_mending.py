"""[22]: needless, repairs, idle; [2] as far as these show it."""

import itertools
import unittest

from laytwice.comparing import alike
from laytwice.deciding import goals
from laytwice.errors import InvalidGoal
from laytwice.mending import idle, needless, repairs
from laytwice.tools import Row, Tool
from tests import plain
from tests.samples import any_values

HASTY = Tool.read("tool\nif marked do break\nif long do mark\nif left and not left do join")
CALM = Tool.read("tool\nif long do break then mark\nif marked do break\nif not long and not marked do join")
CLOSING = Tool.read("tool sorts\ndo break\nif left do mark\ndo close")

# Tools, wanted goals, and the rows that are needless for these, and that repair them.
KNOWN = (
    (HASTY, ("again",), (2,), (0, 1)),
    (HASTY, ("over",), (0, 1, 2), ()),
    (HASTY, ("order",), (0, 1, 2), (0, 1, 2)),
    (HASTY, ("wander",), (0, 1, 2), (0, 1, 2)),
    (HASTY, ("order", "wander"), (0, 1, 2), (0, 1, 2)),
    (HASTY, ("again", "over"), (2,), ()),
    (HASTY, ("again", "order"), (2,), (0, 1)),
    (HASTY, plain.GOALS, (2,), ()),
    (HASTY, (), (0, 1, 2), (0, 1, 2)),
    (CALM, ("again",), (0, 1, 2), (0, 1, 2)),
    (CALM, ("over",), (1, 2), (1, 2)),
    (CALM, ("again", "over"), (1, 2), (1, 2)),
    (CALM, plain.GOALS, (1, 2), (1, 2)),
    (CALM, (), (0, 1, 2), (0, 1, 2)),
    (CLOSING, ("again",), (0, 1), (2,)),
    (CLOSING, ("order",), (0, 1), (2,)),
    (CLOSING, ("again", "order"), (0, 1), (2,)),
    (CLOSING, ("over",), (1, 2), (1, 2)),
    (CLOSING, ("over", "order"), (1,), (2,)),
    (CLOSING, ("wander",), (0, 1, 2), (0, 1, 2)),
    (CLOSING, plain.GOALS, (1,), (2,)),
    (CLOSING, (), (0, 1, 2), (0, 1, 2)),
    # A row without which another goal among the wanted ones happens than with it is not needless.
    (Tool.read("tool\nif marked do lift\ndo break then mark"), ("wander",), (), (0, 1)),
    (Tool.read("tool\nif marked do lift\ndo break then mark"), ("wander", "over"), (), (0,)),
    (Tool.read("tool\nif marked do lift\ndo break then mark"), ("over",), (0,), (0,)),
    # One of two rows that do the same is needless, and none of them repairs.
    (Tool.read("tool\ndo mark\nif first do break\nif first do break"), ("over",), (0, 1, 2), ()),
    (Tool.read("tool\ndo break\ndo break"), ("over",), (0, 1), (0, 1)),
    (Tool.read("tool sorts\ndo close\ndo close"), ("order",), (0, 1), ()),
    (Tool.read("tool sorts\ndo close"), ("order",), (), (0,)),
    (Tool.read("tool\ndo close"), ("order",), (0,), (0,)),
    (Tool.read("tool\nif long do break"), ("over", "again"), (), ()),
    (Tool(), plain.GOALS, (), ()),
    (Tool(), (), (), ()),
    (Tool([], True), ("over",), (), ()),
)

IDLE = (
    ("tool", ()),
    ("tool sorts", ()),
    ("tool\ndo mark", ()),
    ("tool\nif broken do break", (0,)),
    ("tool\nif long and not long do break", (0,)),
    ("tool\ndo break\ndo break", (0, 1)),
    ("tool\ndo join\ndo break", (0,)),
    ("tool\nif marked do break\nif long do mark\nif left and not left do join", (2,)),
    ("tool\nif first and afterbroken do mark\ndo join\nif afterbroken do mark", (0, 2)),
    ("tool\nif first and afterbroken do mark\ndo break\nif afterbroken do mark", (0,)),
    ("tool\ndo mark\nif first do mark\nif not marked do space", (1, 2)),
    ("tool\nif first do mark\nif not first do mark\ndo mark\ndo space", (0, 1, 2)),
    ("tool\nif first do mark\nif not first do mark\nif not marked do mark", (0, 1, 2)),
    ("tool\nif long do break\nif long and behind do break\nif long and not behind do break", (0, 1, 2)),
    ("tool\ndo lift then lower\ndo lift", (0,)),
    ("tool\ndo lift\ndo lower", (0,)),
    ("tool\nif long do lift\ndo break then lower", (0,)),
    ("tool\nif long do lift\nif not long do mark then lower", ()),
    ("tool\ndo close\nif not blank do close", (1,)),
    ("tool\ndo space\nif blank do space", (1,)),
    ("tool\nif blank do space\ndo space", (0,)),
)


class KnownTest(unittest.TestCase):
    def test_example_of_the_document(self):
        found = (needless(HASTY, ["again"]), repairs(HASTY, ["again"]), idle(HASTY))
        self.assertEqual(found, ((2,), (0, 1), (2,)))

    def test_known(self):
        for tool, wanted, without, repairing in KNOWN:
            for given in (wanted, list(wanted), wanted[::-1], wanted + wanted[:1], list(wanted * 3)):
                self.assertEqual(needless(tool, given), without, (str(tool), given))
                self.assertEqual(repairs(tool, given), repairing, (str(tool), given))

    def test_idle(self):
        for text, expected in IDLE:
            tool = Tool.read(text)
            self.assertEqual(idle(tool), expected, text)
            self.assertEqual(idle(Tool(tool.rows, True)), expected, text)

    def test_kinds(self):
        for found in (needless(HASTY, ["over"]), repairs(HASTY, []), idle(HASTY), needless(Tool(), []), idle(Tool())):
            self.assertIs(type(found), tuple)
            self.assertTrue(all(type(at) is int for at in found))

    def test_arguments_by_name(self):
        self.assertEqual(needless(wanted=["again"], tool=HASTY), (2,))
        self.assertEqual(repairs(wanted=("again",), tool=HASTY), (0, 1))
        self.assertEqual(idle(tool=HASTY), (2,))

    def test_nothing_is_changed_and_the_same_call_gives_the_same(self):
        wanted, text = ["over", "again", "over"], str(HASTY)
        first = needless(HASTY, wanted), repairs(HASTY, wanted), idle(HASTY)
        needless(CLOSING, ["order"])
        idle(CALM)
        self.assertEqual((needless(HASTY, wanted), repairs(HASTY, wanted), idle(HASTY)), first)
        self.assertEqual((wanted, str(HASTY)), (["over", "again", "over"], text))
        wanted.clear()
        self.assertEqual(needless(HASTY, ["over", "again", "over"]), first[0])

    def test_beyond_the_limits(self):
        tool = Tool([Row(["long"] * 6, ["break"] * 6)] * 14)
        every = tuple(range(14))
        self.assertEqual((needless(tool, plain.GOALS * 9), repairs(tool, plain.GOALS * 9), idle(tool)), (every,) * 3)


class AgainstTest(unittest.TestCase):
    """The same by hand: each row left out alone."""

    def tools(self):
        return [HASTY, CALM, CLOSING, *plain.DEEP, *plain.some_tools(40, 81, 7)]

    def test_needless_and_repairs_against_goals(self):
        some = [wanted for many in range(5) for wanted in itertools.combinations(plain.GOALS, many)]
        for number, tool in enumerate(self.tools()):
            shorter = [set(goals(tool.without(at))) for at in range(len(tool))]
            for wanted in some[number % 3::3]:
                now = set(goals(tool)) & set(wanted)
                same = tuple(at for at, told in enumerate(shorter) if told & set(wanted) == now)
                none = tuple(at for at, told in enumerate(shorter) if not told & set(wanted))
                self.assertEqual(needless(tool, list(wanted)), same, (str(tool), wanted))
                self.assertEqual(repairs(tool, wanted), none, (str(tool), wanted))

    def test_against_plain_machines(self):
        for tool in [HASTY, CLOSING, plain.DEEP[1]]:
            _, now = plain.Machine(tool).standings()
            shorter = [plain.Machine(tool.without(at)).standings()[1] for at in range(len(tool))]
            for goal in plain.GOALS:
                same = tuple(at for at, told in enumerate(shorter) if (goal in told) == (goal in now))
                self.assertEqual(needless(tool, [goal]), same)
                self.assertEqual(repairs(tool, [goal]), tuple(at for at, told in enumerate(shorter) if goal not in told))

    def test_idle_against_alike(self):
        told = set()
        for tool in self.tools():
            found = idle(tool)
            for at in range(len(tool)):
                self.assertIs(at in found, alike(tool, tool.without(at)), (str(tool), at))
                told.add(at in found)
            self.assertEqual(found, tuple(sorted(set(found))))
        self.assertEqual(told, {False, True})

    def test_an_idle_row_is_needless(self):
        for tool in self.tools():
            for wanted in (plain.GOALS, ["again"], ["over", "wander"]):
                self.assertLessEqual(set(idle(tool)), set(needless(tool, wanted)), str(tool))


class NoGoalTest(unittest.TestCase):
    def wrong(self, tool, wanted):
        for asked in (needless, repairs):
            with self.assertRaises(InvalidGoal):
                asked(tool, wanted)

    def test_any_value_at_any_place(self):
        values = [*any_values(), "Again", "again ", " over", "overs", "not over", "again order", ["again"], ("over",)]
        for value in values:
            for tool in (HASTY, Tool(), CLOSING):
                self.wrong(tool, [value])
            self.wrong(HASTY, (value,))
            self.wrong(HASTY, ["again", value])
            self.wrong(HASTY, [value, "again"])
            self.wrong(HASTY, ["again", value, "over"])
            self.wrong(HASTY, ("order", "again", "over", "wander", value))
            self.wrong(CALM, [value, value])

    def test_two_wrong_ones(self):
        self.wrong(HASTY, ["never", None])
        self.wrong(Tool(), [[], "never"])
