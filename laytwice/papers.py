"""Papers: tables that show that a goal never happens, and that anybody can check."""

from laytwice.deciding import BEGINNING, Step, check_goal, is_met, steps_of
from laytwice.forms import form_lanes


def is_before(value):
    """Whether a value is what may stand ahead of a piece: () or a pair of bools."""
    if not isinstance(value, tuple) or len(value) not in (0, 2):
        return False
    return all([isinstance(one, bool) for one in value])


def is_standing(value):
    """Whether a value is a standing."""
    if not isinstance(value, tuple) or len(value) != 4:
        return False
    before, again, was, fenced = value
    return is_before(before) and is_before(again) and isinstance(was, bool) and isinstance(fenced, bool)


def are_standings(value):
    """Whether a value is a tuple of standings."""
    return isinstance(value, tuple) and all([is_standing(one) for one in value])


def paper(tool, goal):
    """A right paper for a goal: all standings that come; None if the goal happens."""
    check_goal(goal)
    steps = steps_of(tool)
    return None if is_met(steps, goal) else tuple([step.standing for step in steps])


def paper_holds(tool, goal, value):
    """Whether any value is a right paper for a goal."""
    check_goal(goal)
    if not are_standings(value):
        return False
    known = {standing: True for standing in value}
    if BEGINNING not in known:
        return False
    forms = form_lanes()
    for standing in known:
        step = Step(tool, forms, standing, ())
        if step.meeting(goal) != 0 or not all([after in known for after, _ in step.leads()]):
            return False
    return True
