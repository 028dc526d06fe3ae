"""The examples of the document, word for word."""

import ast
import unittest

EXAMPLES = r"""
>>> from debtsheld.programs import is_program, program_text, read_program
>>> TEXT = '(def box (x) (Box (delay (+ x 1))))\n(def open (b) (case b ((Box c) (force c))))'
>>> PROGRAM = read_program(TEXT)
>>> [PROGRAM[0], PROGRAM[1][2], program_text(PROGRAM) == TEXT, is_program(()), read_program('( def  one() 1 )')]
[('box', ('x',), ('make', 'Box', (('delay', ('op', '+', ('name', 'x'), ('int', 1))),))), ('case', ('name', 'b'), (('Box', ('c',), ('force', ('name', 'c'))),)), True, False, (('one', (), ('int', 1)),)]
>>> from debtsheld.programs import read_program
>>> read_program('(def one () 01)')
raises BadText('(def one () 01)')
>>> from debtsheld.checker import fault, is_checked
>>> from debtsheld.programs import read_program
>>> TEXTS = ('(def box (x) (Box (delay (+ x 1))))\n(def open (b) (case b ((Box c) (force c))))', '(def f (x) y)', '(def f (x x) x)', '(def f (x) (f))', '(def f (x) (case x ((A) 1) ((A) 2)))', '(def f (x) (A x))\n(def g () (A))')
>>> [[fault(read_program(text)) for text in TEXTS], is_checked(read_program(TEXTS[0]))]
[[None, ('unbound', 'f', 'y'), ('parameter', 'f', 'x'), ('call', 'f', 'f'), ('branch', 'f', 'A'), ('tag', 'g', 'A')], True]
"""


def answer(line, names):
    """What the document shows below a line, or None if it shows nothing."""
    try:
        if isinstance(ast.parse(line).body[0], ast.Expr):
            return repr(eval(line, names))
        exec(line, names)
    except Exception as e:
        return "raises " + type(e).__name__ + "(" + repr(e.thing) + ")"
    return None


class ExampleTests(unittest.TestCase):

    def test_examples(self):
        names = {}
        lines = EXAMPLES.strip().split("\n")
        shown = 0
        for at, line in enumerate(lines):
            if not line.startswith(">>> "):
                continue
            below = lines[at + 1] if at + 1 < len(lines) and not lines[at + 1].startswith(">>> ") else None
            self.assertEqual(answer(line[4:], names), below)
            shown += below is not None
        self.assertEqual(shown, 3)


if __name__ == "__main__":
    unittest.main()
