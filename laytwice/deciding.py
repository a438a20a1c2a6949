"""Deciding about tools, for all programs and all widths.

A first run and a second one over it are a machine that reads one form after another. What it keeps is a standing
(before, again, was, fenced): what stands ahead behind the first run, and behind the rows of the second one, and
whether the piece ahead was a fence ahead of the first run, and is one behind it.
"""

from laytwice.errors import InvalidGoal, NoRow, Refused
from laytwice.forms import FORMS, form_lanes
from laytwice.kinds import is_number
from laytwice.pieces import Piece
from laytwice.programs import Program
from laytwice.running import rows_done, where_done, where_long

GOALS = ("again", "order", "over", "wander")
BEGINNING = ((), (), True, True)

# The facts that rows can change.
CHANGING = ("broken", "marked", "ahead", "behind", "blank", "two")

# There are twelve pairs of two unlike things that can stand ahead.
UNLIKE_PAIRS = 12

# The width of examples, and how much of it the bare row of a piece leaves in them, by the size of its form. Remarks
# are one letter long, so the gap is 5.
WIDTH = 12
REMARK = "x"
SPARE = {"over": -1, "even": 0, "tight": 1, "just": 5, "wide": 6}
LETTERS = "abcdefghijklmnopqrstuvwxyz"


def check_goal(goal):
    """Raise that a value is no goal, unless it is one."""
    if not isinstance(goal, str) or goal not in GOALS:
        raise InvalidGoal()


def lowest(lanes):
    """The number of the first of some lanes; the first forms make the plainest examples."""
    return (lanes & -lanes).bit_length() - 1


def groups(every, questions):
    """The answers that lanes give to these questions, each with the lanes that give just these."""
    found = [((), every)]
    for yes in questions:
        halves = [
            ((*answers, answer), where & yes if answer else where & ~yes)
            for answers, where in found
            for answer in (False, True)
        ]
        found = [(answers, where) for answers, where in halves if where != 0]
    return found


def fences(lanes):
    """In which lanes the piece is a fence."""
    return lanes["ahead"] | lanes["blank"] | lanes["left"]


def unlike(one, other, words):
    """The lanes in which some of these facts is not the same in both."""
    found = 0
    for word in words:
        found |= one[word] ^ other[word]
    return found


class Step:
    """What a tool makes of all forms at a standing, in a first run and in a second one.

    `trail` is a tuple of the forms that lead to the standing from the beginning.
    """

    def __init__(self, tool, forms, standing, trail):
        before, again, _, _ = standing
        self.sorting = tool.sorts
        self.forms = forms
        self.standing = standing
        self.trail = trail
        self.first = rows_done(tool.rows, before, forms)
        self.second = rows_done(tool.rows, again, self.first)

    def turning(self):
        """The forms of pieces that a second run may put ahead of the piece ahead of them."""
        _, _, was, fenced = self.standing
        if fenced or not self.sorting:
            return 0
        loose = self.forms["every"] & ~fences(self.first)
        return loose if was else loose & fences(self.forms)

    def meeting(self, goal):
        """The forms that meet a goal."""
        if goal == "over":
            return where_long(self.first) & ~self.first["broken"]
        if goal == "wander":
            return unlike(self.first, self.second, ("ahead", "behind"))
        if goal == "order":
            return self.turning()
        return self.turning() | unlike(self.first, self.second, CHANGING)

    def leads(self):
        """The standings to which forms lead, each with the number of such a form."""
        told = groups(self.forms["every"], [
            self.first["broken"], self.first["behind"],
            self.second["broken"], self.second["behind"],
            fences(self.forms), fences(self.first),
        ])
        return [
            (((broken, behind), (broken_again, behind_again), was, fenced), lowest(where))
            for (broken, behind, broken_again, behind_again, was, fenced), where in told
        ]


def steps_from(beginning, step_at):
    """The steps at all standings that come, those that come behind fewer pieces ahead of others.

    `step_at(standing, trail)` is the step at a standing to which the forms in `trail` lead.
    """
    steps = [step_at(beginning, ())]
    known = {beginning: True}
    at = 0
    while at < len(steps):
        step = steps[at]
        for standing, number in step.leads():
            if standing not in known:
                known[standing] = True
                steps.append(step_at(standing, (*step.trail, FORMS[number])))
        at += 1
    return steps


def steps_of(tool):
    """The steps of a first run and a second one, at all standings that come."""
    forms = form_lanes()
    return steps_from(BEGINNING, lambda standing, trail: Step(tool, forms, standing, trail))


def is_met(steps, goal):
    """Whether a goal is met at some step."""
    return any([step.meeting(goal) != 0 for step in steps])


def happens(tool, goal):
    """Whether some program and width meet the goal."""
    check_goal(goal)
    return is_met(steps_of(tool), goal)


def goals(tool):
    """The goals that happen, ascending."""
    steps = steps_of(tool)
    return tuple([goal for goal in GOALS if is_met(steps, goal)])


def word_of(number):
    """A word of two letters; they ascend with their numbers."""
    high, low = divmod(number, len(LETTERS))
    return LETTERS[high] + LETTERS[low]


def parts_of(length):
    """Items that take so much of a row, at most 14."""
    if length <= 6:
        return ["x" * length]
    second = "x" * min(length - 3, 6)
    return ["x" * (length - len(", ") - len(second)), second]


def piece_of(word, form):
    """A piece with this word that has this form at the width of examples."""
    size, broken, marked, ahead, behind, blanks, left = form
    frame = Piece(word, ["x"], left=left).bare - len("x")
    return Piece(
        word,
        parts_of(WIDTH - SPARE[size] - frame),
        broken,
        marked,
        REMARK if ahead else "",
        REMARK if behind else "",
        blanks,
        left,
    )


def program_of(forms, turned):
    """A program of pieces with these forms, their words ascending; if `turned`, the last word is the least one."""
    words = [word_of(at + 1) for at in range(len(forms))]
    if turned:
        words[-1] = word_of(0)
    return Program([piece_of(word, form) for word, form in zip(words, forms)])


def example(tool, goal):
    """A width and a program of the fewest pieces that meet the goal, or None."""
    check_goal(goal)
    for step in steps_of(tool):
        met = step.meeting(goal)
        if met != 0:
            number = lowest(met)
            # A second run changes the order only if the words ask for it. The first run still changes nothing: if
            # the form turns, this piece or the one ahead of it is a fence ahead of that run.
            turned = (step.turning() >> number) & 1 == 1
            return WIDTH, program_of([*step.trail, FORMS[number]], turned)
    return None


def stands_ahead_in(lanes):
    """What the pieces in these lanes are for one behind them: each such thing once."""
    told = groups(lanes["every"], [lanes["broken"], lanes["behind"]])
    return [before for before, _ in told]


def befores_of(tool, forms):
    """All that comes to stand ahead of a piece in a first run."""
    found = [()]
    waiting = [()]
    while waiting:
        lanes = rows_done(tool.rows, waiting.pop(), forms)
        for before in stands_ahead_in(lanes):
            if before not in found:
                found.append(before)
                waiting.append(before)
    return found


def comes(tool, at):
    """Whether some first run does the row with a number for some piece."""
    if not is_number(at, len(tool)):
        raise NoRow(at)
    forms = form_lanes()
    for before in befores_of(tool, forms):
        lanes = rows_done(tool.rows[:at], before, forms)
        if where_done(lanes, tool.rows[at]) != 0:
            return True
    return False


def first_pairs(tool, forms):
    """What can stand ahead of the piece behind the only one that differs in two programs: pairs of unlike things."""
    found = []
    for before in befores_of(tool, forms):
        sides = stands_ahead_in(rows_done(tool.rows, before, forms))
        found.extend([(one, other) for one in sides for other in sides if one != other])
    return found


def next_pairs(forms, one, other):
    """What can stand ahead of the next piece, where a piece is laid out as these lanes tell: pairs of unlike things."""
    told = groups(forms["every"], [one["broken"], one["behind"], other["broken"], other["behind"]])
    pairs = [((broken, behind), (broken_too, behind_too)) for (broken, behind, broken_too, behind_too), _ in told]
    return [(left, right) for left, right in pairs if left != right]


def reach(tool):
    """How far behind a piece that is changed another one may be laid out unlike, or None if there is no limit."""
    if tool.sorts:
        raise Refused("sorts")
    forms = form_lanes()
    pairs = first_pairs(tool, forms)
    greatest = 0
    # Behind as many steps as there are pairs, one has come twice, and so it comes again and again.
    for distance in range(1, UNLIKE_PAIRS + 1):
        later = {}
        for left, right in pairs:
            one = rows_done(tool.rows, left, forms)
            other = rows_done(tool.rows, right, forms)
            if unlike(one, other, CHANGING) != 0:
                greatest = distance
            for pair in next_pairs(forms, one, other):
                later[pair] = True
        pairs = list(later)
    return None if pairs else greatest
