"""[19] and [20]: standings and papers; [3] as far as papers show it."""

import itertools
import random
import unittest

from laytwice.deciding import happens
from laytwice.papers import paper, paper_holds
from laytwice.tools import Tool
from tests import plain
from tests.samples import any_values, deep

BEGINNING = ((), (), True, True)
CALM = Tool.read("tool\nif long do break then mark\nif marked do break\nif not long and not marked do join")
ALL = tuple(itertools.product(plain.BEFORES, plain.BEFORES, (False, True), (False, True)))
TOOLS = tuple(Tool.read(text) for text in (
    "tool", "tool sorts", "tool\nif long do break then mark", "tool sorts\ndo break then lift then space",
    "tool\nif marked do break", "tool\ndo break\nif afterbroken do lift", "tool sorts\nif first do break then space",
    "tool sorts\ndo break\nif first do close\nif not first do space",
    "tool sorts\nif afterbehind do break\nif blank do space",
    "tool\nif afterbroken do join\nif not afterbroken do break",
))


def papers():
    """All tools with the goals that never happen, and a paper for each."""
    return [
        (tool, goal, paper(tool, goal))
        for tool in [CALM, *TOOLS, *plain.DEEP, *plain.some_tools(25, 61, 6)]
        for goal in plain.GOALS
        if not happens(tool, goal)
    ]


class PaperTest(unittest.TestCase):
    def test_example_of_the_document(self):
        one = Tool.read("tool\nif marked do break")
        found = (paper_holds(one, "again", paper(one, "again")), paper_holds(one, "again", ()), paper(one, "over"))
        self.assertEqual(found, (True, False, None))

    def test_kinds(self):
        for _, _, found in papers():
            self.assertIs(type(found), tuple)
            self.assertIn(BEGINNING, found)
            self.assertLessEqual(len(found), 300)
            for standing in found:
                self.assertIs(type(standing), tuple)
                before, again, was, fenced = standing
                self.assertEqual((type(was), type(fenced)), (bool, bool))
                for ahead in (before, again):
                    self.assertIs(type(ahead), tuple)
                    self.assertIn(len(ahead), (0, 2))
                    self.assertTrue(all(type(one) is bool for one in ahead))

    def test_right_ones(self):
        for tool, goal, found in papers():
            self.assertIs(paper_holds(tool, goal, found), True)

    def test_right_by_a_plain_machine(self):
        for tool in [CALM, *TOOLS, *plain.DEEP]:
            machine = plain.Machine(tool)
            standings, _ = machine.standings()
            for goal in plain.GOALS:
                found = paper(tool, goal)
                if found is not None:
                    self.assertTrue(machine.is_right(goal, found), (str(tool), goal))
                    self.assertLessEqual(set(standings), set(found))

    def test_none_if_the_goal_happens(self):
        self.assertIsNone(paper(Tool(), "over"))
        self.assertIsNone(paper(Tool.read("tool sorts\ndo close"), "order"))
        self.assertIsNone(paper(Tool.read("tool sorts\ndo close"), "again"))
        self.assertIsNone(paper(Tool.read("tool\ndo break\nif marked do lift\ndo mark"), "wander"))
        self.assertIsNotNone(paper(Tool.read("tool\ndo close"), "order"))

    def test_arguments_by_name(self):
        found = paper(goal="again", tool=CALM)
        self.assertIs(paper_holds(value=found, goal="again", tool=CALM), True)


class HoldsTest(unittest.TestCase):
    def wrong(self, tool, goal, value):
        self.assertIs(paper_holds(tool, goal, value), False, (str(tool), goal, value))

    def test_without_the_beginning(self):
        for tool, goal, found in papers():
            self.wrong(tool, goal, tuple(one for one in found if one != BEGINNING))

    def test_with_a_standing_out(self):
        for tool, goal, found in papers()[:40]:
            for standing in found:
                self.wrong(tool, goal, tuple(one for one in found if one != standing))

    def test_without_any_standing(self):
        for tool, goal, _ in papers():
            self.wrong(tool, goal, ())
            self.wrong(tool, goal, (BEGINNING,))

    def test_twice_and_in_another_order(self):
        chance = random.Random(62)
        for tool, goal, found in papers():
            self.assertIs(paper_holds(tool, goal, found + found), True)
            self.assertIs(paper_holds(tool, goal, found[::-1]), True)
            mixed = list(found + found[:3])
            chance.shuffle(mixed)
            self.assertIs(paper_holds(tool, goal, tuple(mixed)), True)

    def test_with_one_more(self):
        """Some that come anyhow, some that never come and are right, some that lead to one that is not in it."""
        told = {True: 0, False: 0}
        for tool in [CALM, *TOOLS]:
            machine = plain.Machine(tool)
            for goal in plain.GOALS:
                found = paper(tool, goal)
                for standing in ALL[::3] if found is not None else ():
                    expected = machine.is_right(goal, (*found, standing))
                    self.assertIs(paper_holds(tool, goal, (*found, standing)), expected, (str(tool), goal, standing))
                    told[expected] += 1
        self.assertGreater(min(told.values()), 20)

    def test_one_more_that_never_comes(self):
        tool = Tool.read("tool sorts\ndo break then close")
        # No fence is gone, if no piece ahead of the tool was one: this standing never comes, and meets nothing.
        self.assertIs(happens(tool, "order"), True)
        tool = Tool.read("tool\ndo break then lift")
        never = ((True, False), (True, True), False, True)
        found = paper(tool, "again")
        self.assertNotIn(never, found)
        self.assertIs(paper_holds(tool, "again", (*found, never)), True)
        tool = Tool.read("tool\ndo break then lift\nif afterbehind do mark")
        found = paper(tool, "wander")
        self.assertNotIn(never, found)
        self.assertIs(paper_holds(tool, "wander", (*found, never)), True)

    def test_one_more_at_which_the_goal_is_met(self):
        tool = Tool.read("tool\ndo break then mark\nif afterbroken do join")
        tool = Tool(tool.rows)
        met = ((False, False), (True, False), True, True)
        self.wrong(tool, "again", (BEGINNING, met))
        tool = Tool.read("tool sorts\ndo break then lift then space")
        found = paper(tool, "order")
        self.assertIs(paper_holds(tool, "order", found), True)
        self.assertNotIn(((True, False), (True, False), True, False), found)
        # All pieces are fences behind the first run here, so even behind one that is none nothing is met.
        self.assertIs(paper_holds(tool, "order", (*found, ((True, False), (True, False), True, False))), True)
        tool = Tool([], True)
        found = paper(tool, "order")
        for before in plain.BEFORES:
            self.wrong(tool, "order", (*found, (before, before, True, False)))
            self.assertIs(paper_holds(Tool(), "order", (*found, (before, before, True, False))), True)
        self.assertIs(paper_holds(tool, "over", (*found, ((), (), True, False))), False)
        self.wrong(tool, "again", (*found, ((), (), True, False)))
        self.assertIs(paper_holds(tool, "wander", (*found, ((), (), True, False))), True)

    def test_another_beginning_that_was_a_fence(self):
        """The bools tell of the piece ahead, also where nothing stands ahead behind the first run."""
        tool = Tool.read("tool sorts\ndo break\nif first do close\nif not first do space")
        found = paper(tool, "order")
        self.wrong(tool, "order", (*found, ((), (), False, False)))
        self.assertIs(paper_holds(Tool(tool.rows), "order", (*found, ((), (), True, False))), True)
        self.wrong(tool, "order", (*found, ((), (), True, False)))
        self.assertIs(paper_holds(tool, "order", (*found, ((), (), False, True))), True)

    def test_all_standings(self):
        for tool in [CALM, *TOOLS]:
            machine = plain.Machine(tool)
            for goal in plain.GOALS:
                self.assertIs(paper_holds(tool, goal, ALL), machine.is_right(goal, ALL), (str(tool), goal))
        self.assertIs(paper_holds(Tool.read("tool\ndo break"), "again", ALL), True)
        self.assertIs(paper_holds(Tool.read("tool\ndo break"), "again", ALL * 3), True)

    def test_a_paper_for_another_goal(self):
        tool = Tool.read("tool\nif marked do break")
        found = paper(tool, "again")
        self.assertEqual([paper_holds(tool, goal, found) for goal in plain.GOALS], [True, True, False, True])
        for tool, _, found in papers():
            for goal in plain.GOALS:
                if happens(tool, goal):
                    self.wrong(tool, goal, found)

    def test_a_paper_for_another_tool(self):
        found = paper(Tool([], True), "order")
        self.wrong(Tool.read("tool sorts\ndo close"), "order", found)
        self.wrong(Tool.read("tool sorts\nif marked do lift then space"), "order", found)

    def test_lists_in_the_place_of_tuples(self):
        for tool, goal, found in papers()[:30]:
            self.wrong(tool, goal, list(found))
            self.wrong(tool, goal, [list(one) for one in found])
            for at, standing in enumerate(found):
                for other in (list(standing), (list(standing[0]), *standing[1:]),
                              (standing[0], list(standing[1]), *standing[2:])):
                    self.wrong(tool, goal, (*found[:at], other, *found[at + 1:]))
                    self.wrong(tool, goal, (*found, other))

    def test_numbers_for_bools(self):
        for tool, goal, found in papers()[:30]:
            for at, (before, again, was, fenced) in enumerate(found):
                others = [(before, again, int(was), fenced), (before, again, was, int(fenced))]
                if before != ():
                    others += [((int(before[0]), before[1]), again, was, fenced),
                               (before, (again[0], int(again[1])), was, fenced)]
                for other in others:
                    self.assertEqual(other, found[at])
                    self.wrong(tool, goal, (*found[:at], other, *found[at + 1:]))
                    self.wrong(tool, goal, (*found, other))

    def test_other_lengths(self):
        found = paper(CALM, "again")
        for at, standing in enumerate(found):
            before, again, was, fenced = standing
            for other in ((), standing[:3], (*standing, True), (*standing, ()), ((True,), again, was, fenced),
                          ((True,) * 3, again, was, fenced), (before, (False,), was, fenced),
                          (before, (False,) * 3, was, fenced), (before, (before,), was, fenced)):
                self.wrong(CALM, "again", (*found[:at], other, *found[at + 1:]))
                self.wrong(CALM, "again", (*found, other))

    def test_any_values(self):
        found = paper(CALM, "again")
        for value in [*any_values(), deep(8), "again", {BEGINNING: True}, set(found), iter(found), 1.5, b""]:
            if value != ():
                self.wrong(CALM, "again", value)
            self.wrong(CALM, "again", (*found, value))
            self.wrong(CALM, "again", (value, *found))
            for at in range(4):
                spoilt = list(BEGINNING)
                spoilt[at] = value
                if tuple(spoilt) not in ALL or type(value) is int or isinstance(value, list):
                    self.wrong(CALM, "again", (*found, tuple(spoilt)))
            self.wrong(CALM, "again", (*found, ((True, value), (True, True), True, True)) if type(value) is not bool else ())
            self.wrong(CALM, "again", (*found, ((), (value, True), True, True)) if type(value) is not bool else ())

    def test_beyond_the_limits(self):
        found = paper(CALM, "again")
        self.assertIs(paper_holds(CALM, "again", found * 100), True)
        self.wrong(CALM, "again", found * 100 + ((),))

    def test_nothing_is_changed_and_the_same_call_gives_the_same(self):
        found = paper(CALM, "again")
        value = [list(one) for one in found]
        self.wrong(CALM, "again", value)
        self.assertEqual(value, [list(one) for one in found])
        for _ in range(2):
            self.assertIs(paper_holds(CALM, "again", found), True)
            self.assertEqual(paper(CALM, "again"), found)
            paper(Tool([], True), "order")
