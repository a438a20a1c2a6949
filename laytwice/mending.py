"""Mending: which rows of a tool are not needed, and which ones are to blame."""

from laytwice.comparing import alike
from laytwice.deciding import check_goal, goals


def check_goals(wanted):
    """Raise that something in a sequence is no goal, unless all in it are goals."""
    for goal in wanted:
        check_goal(goal)


def goals_among(tool, wanted):
    """The goals among these that happen."""
    return [goal for goal in goals(tool) if goal in wanted]


def needless(tool, wanted):
    """The numbers of the rows without which, each alone, the same goals among these happen."""
    check_goals(wanted)
    found = goals_among(tool, wanted)
    return tuple([at for at in range(len(tool)) if goals_among(tool.without(at), wanted) == found])


def repairs(tool, wanted):
    """The numbers of the rows without which, each alone, none of these goals happens."""
    check_goals(wanted)
    return tuple([at for at in range(len(tool)) if len(goals_among(tool.without(at), wanted)) == 0])


def idle(tool):
    """The numbers of the rows without which, each alone, the tool makes the same of each program."""
    return tuple([at for at in range(len(tool)) if alike(tool, tool.without(at))])
