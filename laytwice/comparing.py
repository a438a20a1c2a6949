"""Comparing two tools, for all programs and all widths.

Two ways to lay out a program are followed as long as both make the same of it: one run of either tool, or a run of both
tools in either order. What is kept is a standing: a tuple of what stands ahead behind each run.
"""

from laytwice.deciding import CHANGING, WIDTH, groups, lowest, program_of, steps_from, unlike
from laytwice.errors import Refused
from laytwice.forms import FORMS, form_lanes
from laytwice.running import rows_done


def standing_of(answers):
    """The standing that two answers for each run tell: whether the piece is broken, and has a remark behind."""
    return tuple([answers[at:at + 2] for at in range(0, len(answers), 2)])


class Fork:
    """What two ways make of all forms at a standing, where they have made the same of all pieces ahead.

    `trail` is a tuple of the forms that lead to the standing, `runs` are the lanes behind each run that the next
    standing tells of, and `parted` the forms of which both ways do not make the same.
    """

    def __init__(self, forms, trail, runs, parted):
        self.forms = forms
        self.trail = trail
        self.runs = runs
        self.parted = parted

    def leads(self):
        """The standings to which forms lead, each with the number of such a form; none once both ways have parted."""
        if self.parted != 0:
            return []
        told = groups(self.forms["every"], [lanes[word] for lanes in self.runs for word in ("broken", "behind")])
        return [(standing_of(answers), lowest(where)) for answers, where in told]


def fork_of_tools(p, q, forms, standing, trail):
    """What one run of either tool makes of all forms."""
    before = standing[0]
    one = rows_done(p.rows, before, forms)
    other = rows_done(q.rows, before, forms)
    return Fork(forms, trail, [one], unlike(one, other, CHANGING))


def fork_of_orders(p, q, forms, standing, trail):
    """What p and then q, and q and then p, make of all forms."""
    before_p, before_q, before = standing
    by_p = rows_done(p.rows, before_p, forms)
    by_q = rows_done(q.rows, before_q, forms)
    one = rows_done(q.rows, before, by_p)
    other = rows_done(p.rows, before, by_q)
    return Fork(forms, trail, [by_p, by_q, one], unlike(one, other, CHANGING))


def first_parted(forks):
    """A width and a program of the fewest pieces of which two ways do not make the same, or None."""
    for fork in forks:
        if fork.parted != 0:
            return WIDTH, program_of([*fork.trail, FORMS[lowest(fork.parted)]], False)
    return None


def parting(p, q):
    """A width and a program of the fewest pieces of which the tools do not make the same, or None."""
    forms = form_lanes()
    forks = steps_from(((),), lambda standing, trail: fork_of_tools(p, q, forms, standing, trail))
    # If just one of them sorts, this is seen in two pieces that are no fences, as those with the first of all forms.
    if p.sorts != q.sorts and forks[0].parted == 0:
        return WIDTH, program_of([FORMS[0], FORMS[0]], True)
    return first_parted(forks)


def alike(p, q):
    """Whether the tools make the same of each program at each width, in one run."""
    return parting(p, q) is None


def crossing(p, q):
    """A width and a program of the fewest pieces for which it matters which tool runs first, or None."""
    if p.sorts or q.sorts:
        raise Refused("sorts")
    forms = form_lanes()
    beginning = ((), (), ())
    return first_parted(steps_from(beginning, lambda standing, trail: fork_of_orders(p, q, forms, standing, trail)))


def commute(p, q):
    """Whether it does not matter, for any program and width, which tool runs first and which one behind it."""
    return crossing(p, q) is None
