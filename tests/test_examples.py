"""All examples of the document, run as they stand there: each block by itself, from its first row to its last one."""

import unittest

EXAMPLES = (
    r"""
>>> from laytwice.deciding import example, goals, reach
>>> from laytwice.tools import Tool
>>> calm = Tool.read('tool\nif long do break then mark\nif marked do break\nif not long and not marked do join')
>>> hasty, sorter = Tool.read('tool\nif marked do break\nif long do mark'), Tool.read('tool sorts\ndo close')
>>> (goals(calm), goals(hasty), goals(sorter))
((), ('again', 'over'), ('again', 'order', 'over'))
>>> (len(example(hasty, 'again')[1]), len(example(sorter, 'order')[1]), example(calm, 'again'))
(1, 2, None)
>>> (reach(calm), reach(Tool.read('tool\nif afterbehind do break')), reach(Tool.read('tool\nif afterbroken do break')))
(0, 1, None)
""",
    r"""
>>> from laytwice.programs import Program
>>> from laytwice.running import run, runs
>>> from laytwice.tools import Tool
>>> calm, hasty = Tool.read('tool\nif long do break then mark'), Tool.read('tool\nif marked do break\nif long do mark')
>>> program = Program.read('call(alpha, beta, gamma)')
>>> str(run(calm, 20, program))
'call(\n  alpha,\n  beta,\n  gamma,\n)'
>>> [str(one) for one in runs(hasty, 20, program, 9)]
['call(alpha, beta, gamma,)', 'call(\n  alpha,\n  beta,\n  gamma,\n)']
>>> str(run(Tool.read('tool sorts\nif long do lift'), 9, Program.read('b(x)  # note\na(y)')))
'a(y)\n# note\nb(x)'
""",
    r"""
>>> from laytwice.forms import FORMS, form_of, lay
>>> from laytwice.pieces import Piece
>>> from laytwice.tools import Tool
>>> piece = Piece('call', ['a'], behind='x')
>>> ([form_of(piece, width)[0] for width in (6, 7, 11, 12, 13)], len(FORMS), piece.bare)
(['over', 'even', 'tight', 'just', 'wide'], 432, 7)
>>> lay(Tool.read('tool\nif long do lift\nif afterbroken do space'), (True, False), form_of(piece, 11))
('tight', False, False, True, False, 1, False)
""",
    r"""
>>> from laytwice.comparing import alike, commute, crossing
>>> from laytwice.papers import paper, paper_holds
>>> from laytwice.tools import Tool
>>> one, other = Tool.read('tool\nif marked do break'), Tool.read('tool\nif broken do unmark')
>>> (commute(one, other), len(crossing(one, other)[1]), alike(one, one + one), alike(one, other))
(False, 1, True, False)
>>> (paper_holds(one, 'again', paper(one, 'again')), paper_holds(one, 'again', ()), paper(one, 'over'))
(True, False, None)
""",
    r"""
>>> from laytwice.mending import idle, needless, repairs
>>> from laytwice.tools import Tool
>>> hasty = Tool.read('tool\nif marked do break\nif long do mark\nif left and not left do join')
>>> (needless(hasty, ['again']), repairs(hasty, ['again']), idle(hasty))
((2,), (0, 1), (2,))
""",
    r"""
>>> from laytwice.programs import Program
>>> Program.read('a(b)\n\n\n\nc(d)')
raises InvalidText(3)
""",
    r"""
>>> from laytwice.desk import Desk
>>> desk = Desk()
>>> [desk.say(word) for word in ('tool tool ; if long do break', 'width 8', 'program - a(b)', 'program call(ab,_cd) - a(b)__#_x', 'run', 'row 0', 'run', 'goals')]
['1 rows', 'done', '1', '2', 'changed', 'call(', 'same', 'none']
""",
)


def told(code, names):
    """What an example tells in the row behind it."""
    try:
        return repr(eval(code, names))
    except ValueError as error:
        arguments = ", ".join(repr(value) for value in vars(error).values())
        return f"raises {type(error).__name__}({arguments})"


class ExamplesTest(unittest.TestCase):
    def test_all(self):
        asked = 0
        for block in EXAMPLES:
            names = {}
            lines = block.strip().split("\n")
            for line, after in zip(lines, [*lines[1:], ">>> "]):
                code = line.removeprefix(">>> ")
                if code == line:
                    continue
                if after.startswith(">>> "):
                    exec(code, names)
                else:
                    self.assertEqual(told(code, names), after, code)
                    asked += 1
        self.assertEqual(asked, 13)
