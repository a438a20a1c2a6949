"""What the document says of running and deciding, done a second time, piece by piece, as plainly as can be.

Nothing here uses `laytwice.running`, `laytwice.forms`, `laytwice.deciding` or `laytwice.papers`.
"""

import itertools
import random

from laytwice.pieces import Piece
from laytwice.programs import Program
from laytwice.tools import Row, Tool

TESTS = ("broken", "marked", "left", "ahead", "behind", "blank", "long", "first", "afterbroken", "afterbehind")
DEEDS = ("break", "join", "mark", "unmark", "lift", "lower", "space", "close")
GOALS = ("again", "order", "over", "wander")
BEGINNING = ((), (), True, True)
BEFORES = ((), (False, False), (False, True), (True, False), (True, True))
SIZES = ("even", "just", "over", "tight", "wide")


# Running

def one_row(piece):
    """The one row of a piece, were it not broken, with its mark and the remark behind."""
    sign = "!" if piece.left else ""
    comma = "," if piece.marked else ""
    remark = "  # " + piece.behind if piece.behind else ""
    return sign + piece.word + "(" + ", ".join(piece.parts) + comma + ")" + remark


def holds(test, piece, before, width):
    if test.startswith("not "):
        return not holds(test[4:], piece, before, width)
    return {
        "broken": lambda: piece.broken,
        "marked": lambda: piece.marked,
        "left": lambda: piece.left,
        "ahead": lambda: piece.ahead != "",
        "behind": lambda: piece.behind != "",
        "blank": lambda: piece.blanks in (1, 2),
        "long": lambda: len(one_row(piece)) > width,
        "first": lambda: before == (),
        "afterbroken": lambda: before != () and before[0],
        "afterbehind": lambda: before != () and before[1],
    }[test]()


def done(deed, piece):
    if deed == "break":
        return piece.but(broken=True)
    if deed == "join":
        return piece.but(broken=False)
    if deed == "mark":
        return piece.but(marked=True)
    if deed == "unmark":
        return piece.but(marked=False)
    if deed == "space":
        return piece.but(blanks=1)
    if deed == "close":
        return piece.but(blanks=0)
    if deed == "lift" and piece.behind != "" and piece.ahead == "":
        return piece.but(ahead=piece.behind, behind="")
    if deed == "lower" and piece.ahead != "" and piece.behind == "":
        return piece.but(ahead="", behind=piece.ahead)
    return piece


def laid(tool, width, before, piece, rows_done=None):
    """The piece behind the rows; the numbers of those that are done are put into `rows_done`."""
    for at, row in enumerate(tool.rows):
        if all(holds(test, piece, before, width) for test in row.tests):
            for deed in row.deeds:
                piece = done(deed, piece)
            if rows_done is not None:
                rows_done.add(at)
    return piece


def fence(piece):
    return piece.ahead != "" or piece.blanks != 0 or piece.left


def sorted_pieces(pieces):
    """Neighbours that are no fences change places as long as they are in the wrong order."""
    pieces = list(pieces)
    changed = True
    while changed:
        changed = False
        for at in range(len(pieces) - 1):
            one, other = pieces[at:at + 2]
            if not fence(one) and not fence(other) and (other.word, other.parts) < (one.word, one.parts):
                pieces[at:at + 2] = [other, one]
                changed = True
    return pieces


def laid_rows(tool, width, pieces, rows_done=None):
    """The pieces behind the rows, without sorting."""
    found = []
    for piece in pieces:
        before = (found[-1].broken, found[-1].behind != "") if found else ()
        found.append(laid(tool, width, before, piece, rows_done))
    return found


def run(tool, width, program):
    return Program(laid_rows(tool, width, sorted_pieces(program.pieces) if tool.sorts else program.pieces))


def meets(tool, goal, width, program):
    """Whether the program and the width meet the goal."""
    once = run(tool, width, program)
    if goal == "again":
        return str(run(tool, width, once)) != str(once)
    if goal == "order":
        return tool.sorts and sorted_pieces(once.pieces) != list(once.pieces)
    if goal == "over":
        return any(not piece.broken and len(one_row(piece)) > width for piece in once.pieces)
    twice = laid_rows(tool, width, once.pieces)
    return any((one.ahead, one.behind) != (two.ahead, two.behind) for one, two in zip(once.pieces, twice))


# Forms

def form_of(piece, width):
    """The form of a piece, where the gap is told by the rows of the text."""
    bare = len(one_row(piece.but(marked=False, behind="")))
    remark = piece.behind if piece.behind else piece.ahead
    with_remark = len(one_row(piece.but(marked=False, behind=remark)))
    if width < bare:
        size = "over"
    elif width == bare:
        size = "even"
    elif remark == "" or width > with_remark:
        size = "wide"
    elif width == with_remark:
        size = "just"
    else:
        size = "tight"
    return (size, piece.broken, piece.marked, piece.ahead != "", piece.behind != "", piece.blanks, piece.left)


def all_forms():
    found = []
    for size, *shape in itertools.product(SIZES, *[(False, True)] * 4, (0, 1, 2), (False, True)):
        if size not in ("tight", "just") or shape[2] or shape[3]:
            found.append((size, *shape))
    return found


def parts_of(length):
    """Items that take so much of a row."""
    for many in range(1, 20):
        letters = length - 2 * (many - 1)
        if many <= letters <= 6 * many:
            return ["y" * (letters // many + (at < letters % many)) for at in range(many)]
    raise AssertionError(length)


def piece_with(form, width, word="word", remark="rem", less=0):
    """A piece with this form at this width; `less` makes one that is over or wide differ further from the width."""
    size, broken, marked, ahead, behind, blanks, left = form
    gap = len("  # ") + len(remark)
    spare = {"over": -1 - less, "even": 0, "tight": 1 + less % (gap - 1), "just": gap, "wide": gap + 1 + less}[size]
    if size == "wide" and not ahead and not behind:
        spare = 1 + less
    return Piece(
        word, parts_of(width - spare - len(word) - 2 - left), broken, marked,
        remark if ahead else "", remark if behind else "", blanks, left,
    )


# Deciding, from form to form

class Machine:
    """What a tool makes of each form behind each thing that can stand ahead."""

    def __init__(self, tool, width=40):
        self.tool = tool
        self.forms = all_forms()
        self.lay, self.rows_done, self.known = {}, {}, {}
        for form in self.forms:
            piece = piece_with(form, width)
            for before in BEFORES:
                rows = set()
                self.lay[before, form] = form_of(laid(tool, width, before, piece, rows), width)
                self.rows_done[before, form] = rows

    def lead(self, standing, form):
        """The standing to which a form leads, and the goals that it meets."""
        before, again, was, fenced = standing
        first = self.lay[before, form]
        second = self.lay[again, first]
        now, then = (is_fence(one) for one in (form, first))
        met = set()
        if first != second:
            met.add("again")
        if first[3:5] != second[3:5]:
            met.add("wander")
        if not first[1] and is_long(first):
            met.add("over")
        if self.tool.sorts and not fenced and not then and (was or now):
            met.update(("again", "order"))
        return ((first[1], first[4]), (second[1], second[4]), now, then), met

    def leads(self, standing):
        """All standings to which forms lead, and all goals that forms meet."""
        if standing not in self.known:
            afters, goals = set(), set()
            for form in self.forms:
                after, met = self.lead(standing, form)
                afters.add(after)
                goals.update(met)
            self.known[standing] = afters, goals
        return self.known[standing]

    def standings(self):
        """How many pieces are needed for each standing that comes, and for each goal that happens."""
        found, fewest = {BEGINNING: 0}, {}
        waiting = [BEGINNING]
        for standing in waiting:
            afters, met = self.leads(standing)
            for goal in met:
                fewest.setdefault(goal, found[standing] + 1)
            for after in afters:
                if after not in found:
                    found[after] = found[standing] + 1
                    waiting.append(after)
        return found, fewest

    def is_right(self, goal, paper):
        """Whether standings are a right paper."""
        if BEGINNING not in paper:
            return False
        for standing in set(paper):
            afters, met = self.leads(standing)
            if goal in met or not afters <= set(paper):
                return False
        return True

    def befores(self):
        """All that comes to stand ahead."""
        found = [()]
        for before in found:
            for form in self.forms:
                after = self.lay[before, form]
                if (after[1], after[4]) not in found:
                    found.append((after[1], after[4]))
        return found

    def comes(self, at):
        return any(at in self.rows_done[before, form] for before in self.befores() for form in self.forms)

    def further(self, left, right, behind=()):
        """How far pieces are laid out unlike behind these two unlike things; None if there is no end."""
        if (left, right) in behind:
            return None
        greatest = 0
        afters = set()
        for form in self.forms:
            one, other = self.lay[left, form], self.lay[right, form]
            if one != other:
                greatest = 1
                afters.add(((one[1], one[4]), (other[1], other[4])))
        for one, other in afters:
            if one != other:
                more = self.further(one, other, (*behind, (left, right)))
                if more is None:
                    return None
                greatest = max(greatest, 1 + more)
        return greatest

    def reach(self):
        greatest = 0
        for before in self.befores():
            sides = {(self.lay[before, form][1], self.lay[before, form][4]) for form in self.forms}
            for one, other in itertools.permutations(sides, 2):
                more = self.further(one, other)
                if more is None:
                    return None
                greatest = max(greatest, more)
        return greatest


def is_fence(form):
    return form[3] or form[5] > 0 or form[6]


def is_long(form):
    size, _, marked, _, behind, _, _ = form
    if size == "even":
        return marked or behind
    return size == "over" or (size == "tight" and behind) or (size == "just" and behind and marked)


# Samples

def some_tool(chance, most_rows=4):
    """A tool by chance."""
    rows = []
    for _ in range(chance.randint(0, most_rows)):
        tests = [chance.choice(("", "", "not ")) + chance.choice(TESTS) for _ in range(chance.randint(0, 3))]
        rows.append(Row(tests, [chance.choice(DEEDS) for _ in range(chance.randint(1, 3))]))
    return Tool(rows, chance.random() < 0.5)


# Tools for which some standings, goals and rows come only behind several pieces.
DEEP = tuple(Tool.read(text) for text in (
    "tool\ndo join then lift\nif afterbehind and not afterbroken and not behind do break\n"
    "if afterbroken and not afterbehind do break then lower\nif afterbroken and afterbehind and marked do space\n"
    "if afterbroken and afterbehind do mark",
    "tool\nif not afterbehind and not left do break then space\nif not broken do close then break\n"
    "if afterbehind do unmark then unmark then lower\nif not afterbroken and behind do lift then join then unmark\n"
    "if first do lower then break\nif left and not first do lift then close then join",
    "tool sorts\ndo break then break then mark\nif left do space then join then lift\n"
    "if afterbroken and behind and blank do unmark then join\nif afterbroken and not marked and long do unmark then lower\n"
    "if afterbehind and not broken and long do unmark then space then lift",
    "tool sorts\nif first do break then lower then space\nif not first and not marked do join then break\n"
    "if first do close\nif behind and not afterbehind do break then space\nif long and ahead and blank do lift then unmark\n"
    "do lift then space then close\nif afterbroken and afterbehind do lift then join\n"
    "if not afterbroken do break then unmark then space\nif not afterbroken and not afterbehind and blank do join",
    "tool sorts\ndo unmark then join\nif blank and not first and not afterbroken do break then space\n"
    "if marked do space\nif afterbroken do mark then mark then close",
    "tool\nif first and not afterbroken do mark then close\nif not afterbehind do unmark then break\n"
    "if broken and not left and afterbehind do join\ndo space\ndo unmark then lift\n"
    "if long and afterbroken and long do join\nif afterbroken and long and long do break",
    "tool sorts\nif left and not long and not marked do break\nif not left and blank do lower\n"
    "do break then mark then space\nif afterbehind do join then lower then mark\nif not afterbehind do unmark then break\n"
    "if left and not long and marked do close then mark then lift\nif left and not left do break then lower then lower\n"
    "if blank and afterbroken do mark then lift",
    "tool\nif not first and not blank do break\nif blank and not broken and not marked do unmark then lift\n"
    "if broken do mark then mark then join\nif afterbroken and marked do close then lift\nif broken do lower\n"
    "if blank do close then mark then break\nif behind and left and not afterbehind do lift then mark then break\n"
    "if not ahead and not afterbroken and not left do close then break",
    "tool\nif not afterbehind do close then join then unmark\nif left and long and long do mark then lift then unmark\n"
    "if marked and long do unmark then break then space\nif blank do lower then lower then break\n"
    "if not afterbroken and not afterbroken do lower then close then mark",
))


def some_tools(many, seed, most_rows=4):
    chance = random.Random(seed)
    return [some_tool(chance, most_rows) for _ in range(many)]


def some_piece(chance):
    """A piece by chance, of few words, so that many are alike."""
    return Piece(
        chance.choice(("a", "b", "bb", "c")),
        chance.choice((("x",), ("y",), ("x", "y"), ("xxxx", "y"), ("z", "zz", "zzz"))),
        chance.random() < 0.4,
        chance.random() < 0.4,
        chance.choice(("", "", "", "up", "r")),
        chance.choice(("", "", "down", "r")),
        chance.choice((0, 0, 0, 0, 1, 2)),
        chance.random() < 0.1,
    )


def some_program(chance, most=9):
    return Program([some_piece(chance) for _ in range(chance.randint(0, most))])


# Comparing

def same_in_either_order(p, q, width, program):
    """Whether it does not matter for this program and width which tool runs first."""
    return str(run(q, width, run(p, width, program))) == str(run(p, width, run(q, width, program)))


def same_in_one_run(p, q, width, program):
    """Whether both tools make the same of this program at this width."""
    return str(run(p, width, program)) == str(run(q, width, program))


def fewest_behind(beginning, forms, lead):
    """How many pieces are needed until `lead(standing, form)`, which gives the next standing, gives None."""
    depths = {beginning: 0}
    waiting = [beginning]
    for standing in waiting:
        afters = {lead(standing, form) for form in forms}
        if None in afters:
            return depths[standing] + 1
        for after in afters - set(depths):
            depths[after] = depths[standing] + 1
            waiting.append(after)
    return None


def ahead_of(form):
    return form[1], form[4]


def fewest_parting(p, q):
    """How many pieces a program has that two machines do not make the same of; None if there is none."""
    def lead(standing, form):
        one, other = p.lay[standing[0], form], q.lay[standing[1], form]
        return (ahead_of(one), ahead_of(other)) if one == other else None

    found = fewest_behind(((), ()), p.forms, lead)
    return found if found == 1 or p.tool.sorts == q.tool.sorts else 2


def fewest_crossing(p, q):
    """How many pieces a program has for which it matters which of two machines runs first; None if there is none."""
    def lead(standing, form):
        by_p, by_q = p.lay[standing[0], form], q.lay[standing[2], form]
        one, other = q.lay[standing[1], by_p], p.lay[standing[3], by_q]
        return (ahead_of(by_p), ahead_of(one), ahead_of(by_q), ahead_of(other)) if one == other else None

    return fewest_behind(((),) * 4, p.forms, lead)
