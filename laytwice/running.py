"""Running tools: sorting, and the rows that are done for each piece.

The rows are done for one piece by `run`, and for all forms at once where tools are decided about. So that both do the
same, rows work on lanes: the facts that rows ask or change, of as many pieces as wanted side by side. Lanes are a dict
with a number for each fact, in which bit k tells whether the fact holds for piece k; the fact `every` always holds.
The facts are the tests of a tool, but for `long` there are four, as whether a piece is long depends on what the rows
have done with its mark and its remark; and `two` tells of a second blank row.
"""

from laytwice.programs import Program

# What a remark behind a row adds to its length beside its own: two blanks, the sign, and a blank.
SIGN_LENGTH = 4


def gap_of(piece):
    """How much of a row the remark behind takes, or would take if it were not ahead; 0 if there is none."""
    remark = piece.behind or piece.ahead
    return SIGN_LENGTH + len(remark) if remark else 0


def shape_of(piece):
    """What the form of a piece tells, but for the size."""
    return piece.broken, piece.marked, piece.ahead != "", piece.behind != "", piece.blanks, piece.left


def facts_of(shape, over, overmarked, overbehind, overboth):
    """The facts of a piece of which it is known when it is long: bare, marked, with a remark behind, with both."""
    broken, marked, ahead, behind, blanks, left = shape
    return {
        "broken": broken,
        "marked": marked,
        "left": left,
        "ahead": ahead,
        "behind": behind,
        "blank": blanks > 0,
        "two": blanks > 1,
        "over": over,
        "overmarked": overmarked,
        "overbehind": overbehind,
        "overboth": overboth,
    }


def facts_of_piece(piece, width):
    """The facts of a piece at a width."""
    spare = width - piece.bare
    gap = gap_of(piece)
    return facts_of(shape_of(piece), spare < 0, spare < 1, spare < gap, spare < gap + 1)


def bits_of(answers):
    """The number whose bits are these answers, the lowest one first."""
    number = 0
    for at, answer in enumerate(answers):
        if answer:
            number |= 1 << at
    return number


def lanes_of(many):
    """The lanes of these facts, of one piece or more."""
    lanes = {word: bits_of([facts[word] for facts in many]) for word in many[0]}
    lanes["every"] = bits_of([True for _ in many])
    return lanes


def shape_in(lanes):
    """What the form of the piece in the first lane tells, but for the size."""
    told = {word: number & 1 == 1 for word, number in lanes.items()}
    blanks = 2 if told["two"] else int(told["blank"])
    return told["broken"], told["marked"], told["ahead"], told["behind"], blanks, told["left"]


def put_behind(before, lanes):
    """A copy of the lanes where in each one `before` stands ahead of the piece."""
    every = lanes["every"]
    first = len(before) == 0
    broken, behind = (False, False) if first else before
    return {
        **lanes,
        "first": every if first else 0,
        "afterbroken": every if broken else 0,
        "afterbehind": every if behind else 0,
    }


def where_long(lanes):
    """In which lanes the piece is long."""
    marked = lanes["marked"]
    behind = lanes["behind"]
    with_both = marked & behind & lanes["overboth"]
    return lanes["over"] | (marked & lanes["overmarked"]) | (behind & lanes["overbehind"]) | with_both


def where_holds(lanes, test):
    """In which lanes a test holds, perhaps one with `not`."""
    word = test.removeprefix("not ")
    found = where_long(lanes) if word == "long" else lanes[word]
    return found if word == test else lanes["every"] & ~found


def where_done(lanes, row):
    """In which lanes all tests of a row hold."""
    where = lanes["every"]
    for test in row.tests:
        where &= where_holds(lanes, test)
    return where


def do_break(lanes, where):
    lanes["broken"] |= where


def do_join(lanes, where):
    lanes["broken"] &= ~where


def do_mark(lanes, where):
    lanes["marked"] |= where


def do_unmark(lanes, where):
    lanes["marked"] &= ~where


def do_lift(lanes, where):
    moved = where & lanes["behind"] & ~lanes["ahead"]
    lanes["ahead"] |= moved
    lanes["behind"] &= ~moved


def do_lower(lanes, where):
    moved = where & lanes["ahead"] & ~lanes["behind"]
    lanes["behind"] |= moved
    lanes["ahead"] &= ~moved


def do_space(lanes, where):
    lanes["blank"] |= where
    lanes["two"] &= ~where


def do_close(lanes, where):
    lanes["blank"] &= ~where
    lanes["two"] &= ~where


DOING = {
    "break": do_break,
    "join": do_join,
    "mark": do_mark,
    "unmark": do_unmark,
    "lift": do_lift,
    "lower": do_lower,
    "space": do_space,
    "close": do_close,
}


def do_row(lanes, row):
    """Do the deeds of a row in the lanes in which its tests hold."""
    where = where_done(lanes, row)
    for word in row.deeds:
        deed = DOING[word]
        deed(lanes, where)


def rows_done(rows, before, lanes):
    """What the lanes are behind these rows, where `before` stands ahead."""
    now = put_behind(before, lanes)
    for row in rows:
        do_row(now, row)
    return now


def lay_piece(rows, width, before, piece):
    """The piece behind these rows, where `before` stands ahead."""
    lanes = rows_done(rows, before, lanes_of([facts_of_piece(piece, width)]))
    broken, marked, ahead, behind, blanks, _ = shape_in(lanes)
    return piece.but(
        broken=broken,
        marked=marked,
        # With remarks at both places none moves; else there is one that is at the one place or at the other.
        ahead=(piece.ahead or piece.behind) if ahead else "",
        behind=(piece.behind or piece.ahead) if behind else "",
        blanks=blanks,
    )


def stands_ahead(piece):
    """What a piece is for the one behind it."""
    return piece.broken, piece.behind != ""


def is_fence(piece):
    """Whether sorting leaves a piece at its place."""
    return piece.ahead != "" or piece.blanks > 0 or piece.left


def sorting_key(piece):
    """What pieces are sorted by."""
    return piece.word, piece.parts


def in_order(pieces):
    """The pieces with those between neighbouring fences sorted."""
    found = []
    loose = []
    for piece in pieces:
        if is_fence(piece):
            found.extend([*sorted(loose, key=sorting_key), piece])
            loose = []
        else:
            loose.append(piece)
    return [*found, *sorted(loose, key=sorting_key)]


def run(tool, width, program):
    """The program that the tool makes of a program."""
    pieces = in_order(program.pieces) if tool.sorts else program.pieces
    laid = []
    before = ()
    for piece in pieces:
        found = lay_piece(tool.rows, width, before, piece)
        laid.append(found)
        before = stands_ahead(found)
    return Program(laid)


def runs(tool, width, program, most):
    """The programs behind one run after the other, until one changes nothing or there are so many."""
    found = []
    now = program
    while len(found) < most:
        later = run(tool, width, now)
        if found and later == now:
            break
        found.append(later)
        now = later
    return tuple(found)
