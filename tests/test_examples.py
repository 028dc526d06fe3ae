"""The examples of the document, word for word, and those of README.md."""

import ast
import builtins
import doctest
import pathlib
import unittest

README = pathlib.Path(__file__).resolve().parent.parent / "README.md"

EXAMPLES = r"""
>>> from debtsheld.programs import is_program, program_text, read_program
>>> TEXT = '(def box (x) (Box (delay (+ x 1))))\n(def open (b) (case b ((Box c) (force c))))'
>>> PROGRAM = read_program(TEXT)
>>> [PROGRAM[0], PROGRAM[1][2], program_text(PROGRAM) == TEXT, is_program(()), read_program('( def  one() 1 )')]
[('box', ('x',), ('make', 'Box', (('delay', ('op', '+', ('name', 'x'), ('int', 1))),))), ('case', ('name', 'b'), (('Box', ('c',), ('force', ('name', 'c'))),)), True, False, (('one', (), ('int', 1)),)]
>>> from debtsheld.programs import read_program
>>> read_program('(def one () 01)')
raises BadText('(def one () 01)')
>>> from debtsheld.checker import fault, is_checked
>>> from debtsheld.programs import read_program
>>> TEXTS = ('(def box (x) (Box (delay (+ x 1))))\n(def open (b) (case b ((Box c) (force c))))', '(def f (x) y)', '(def f (x x) x)', '(def f (x) (f))', '(def f (x) (case x ((A) 1) ((A) 2)))', '(def f (x) (A x))\n(def g () (A))')
>>> [[fault(read_program(text)) for text in TEXTS], is_checked(read_program(TEXTS[0]))]
[[None, ('unbound', 'f', 'y'), ('parameter', 'f', 'x'), ('call', 'f', 'f'), ('branch', 'f', 'A'), ('tag', 'g', 'A')], True]
>>> from debtsheld.programs import read_program
>>> from debtsheld.worlds import is_part, line, outcomes, steps, traces
>>> PROGRAM = read_program('(def box (x) (Box (delay (+ x 1))))\n(def open (b) (case b ((Box c) (force c))))')
>>> WORLD = (('box', (4,)), ('open', (('of', 0),)), ('open', (('of', 0),)), ('open', (7,)))
>>> [traces(PROGRAM, WORLD)[:2], outcomes(PROGRAM, WORLD)[2:], steps(PROGRAM, WORLD)]
[((('value', ('Box', (('cell', 0),))), 2, (), (0,)), (('value', 5), 4, ((0, 3),), ())), (('value', 5), ('stuck',)), (2, 7, 4, 2)]
>>> from debtsheld.programs import read_program
>>> from debtsheld.worlds import is_part, line
>>> PROGRAM = read_program('(def box (x) (Box (delay (+ x 1))))\n(def open (b) (case b ((Box c) (force c))))')
>>> WORLD = (('box', (4,)), ('open', (('of', 0),)), ('open', (('of', 0),)), ('open', (7,)))
>>> [line(PROGRAM, WORLD, 2), is_part(PROGRAM, WORLD, (1, 2)), is_part(PROGRAM, WORLD, (0, 1, 3))]
[(0, 2), False, True]
>>> from debtsheld.books import charge_holds, judge_charge, least_charge, payers
>>> from debtsheld.programs import read_program
>>> PROGRAM = read_program('(def box (x) (Box (delay (+ x 1))))\n(def open (b) (case b ((Box c) (force c))))')
>>> WORLD = (('box', (4,)), ('open', (('of', 0),)), ('open', (('of', 0),)))
>>> [payers(PROGRAM, WORLD), least_charge(PROGRAM, WORLD), judge_charge(PROGRAM, WORLD, 4), judge_charge(PROGRAM, WORLD, 3)[0] in ('own', 'lot')]
[((0, (0, 1)),), 5, ('lot', (0,)), True]
>>> from debtsheld.books import charge_holds
>>> from debtsheld.programs import read_program
>>> PROGRAM = read_program('(def box (x) (Box (delay (+ x 1))))\n(def open (b) (case b ((Box c) (force c))))')
>>> WORLD = (('box', (4,)), ('open', (('of', 0),)), ('open', (('of', 0),)))
>>> [charge_holds(PROGRAM, WORLD, 5, ('book', ((0, 0, 2), (1, 0, 1)))), charge_holds(PROGRAM, WORLD, 5, ('book', ((0, 0, 3),))), charge_holds(PROGRAM, WORLD, 5, ('book', ((2, 0, 3),)))]
[True, True, False]
>>> from debtsheld.kinds import is_kind_program, is_kind_world, judge_kind, kind_holds, meanings
>>> from debtsheld.programs import read_program
>>> TWO = read_program('(def empty () (Q (N) (N)))\n(def rev (l a) (case l ((N) a) ((C x t) (rev t (C x a)))))\n(def check (f r) (case f ((N) (Q (rev r (N)) (N))) ((C x t) (Q f r))))\n(def put (q x) (case q ((Q f r) (check f (C x r)))))\n(def first (q) (case q ((Q f r) (case f ((C x t) x)))))\n(def rest (q) (case q ((Q f r) (case f ((C x t) (check t r))))))')
>>> PILE = read_program('(def empty () (N))\n(def put (q x) (C x q))\n(def first (q) (case q ((C x t) x)))\n(def rest (q) (case q ((C x t) t)))')
>>> WORLD = (('empty', ()), ('put', (('of', 0), 7)), ('put', (('of', 1), 8)), ('first', (('of', 2),)), ('rest', (('of', 2),)), ('first', (('of', 0),)))
>>> [meanings('queue', WORLD), judge_kind('queue', TWO, WORLD), judge_kind('queue', PILE, WORLD)]
[(('version', ()), ('version', (7,)), ('version', (7, 8)), ('answer', 7), ('version', (8,)), ('stuck',)), ('right',), ('wrong', 3)]
>>> from debtsheld.kinds import is_kind_program, is_kind_world, kind_holds, meanings
>>> from debtsheld.programs import read_program
>>> PILE = read_program('(def empty () (N))\n(def put (q x) (C x q))\n(def first (q) (case q ((C x t) x)))\n(def rest (q) (case q ((C x t) t)))')
>>> WORLD = (('empty', ()), ('put', (('of', 0), 7)), ('put', (('of', 1), 8)), ('first', (('of', 2),)), ('rest', (('of', 2),)), ('first', (('of', 0),)))
>>> HEAP = (('empty', ()), ('insert', (('of', 0), 2)), ('merge', (('of', 1), ('of', 1))), ('without', (('of', 0),)), ('least', (('of', 3),)))
>>> [is_kind_program('queue', PILE), is_kind_program('heap', PILE), is_kind_world('queue', WORLD + (('rest', (('of', 3),)),)), kind_holds('queue', PILE, WORLD, ('wrong', 5)), meanings('heap', HEAP)[2:]]
[True, False, False, False, (('version', (2, 2)), ('stuck',), ('none',))]
>>> from debtsheld.kinds import judge_kind
>>> from debtsheld.shelf import keeps, kind_of, names, promise, shelf
>>> WORLD = (('empty', ()), ('put', (('of', 0), 7)), ('put', (('of', 1), 8)), ('first', (('of', 2),)), ('rest', (('of', 2),)), ('first', (('of', 0),)))
>>> [names(), promise('banker'), kind_of('skew'), [judge_kind('queue', shelf(name), WORLD) for name in ('banker', 'eager', 'real')], [keeps('queue', shelf(name), WORLD, promise(name)) for name in ('banker', 'eager', 'real')]]
[('banker', 'binomial', 'deque', 'eager', 'joined', 'leftist', 'real', 'skew'), ('held', 64), 'list', [('right',), ('right',), ('right',)], [True, True, True]]
>>> from debtsheld.kinds import judge_kind, meanings
>>> from debtsheld.shelf import keeps, promise, shelf
>>> DEQUE = (('empty', ()), ('front', (5, ('of', 0))), ('back', (('of', 1), 6)), ('last', (('of', 2),)), ('init', (('of', 2),)), ('first', (('of', 4),)))
>>> JOINED = (('one', (3,)), ('one', (4,)), ('join', (('of', 0), ('of', 1))), ('join', (('of', 2), ('of', 2))), ('rest', (('of', 3),)), ('first', (('of', 4),)))
>>> HEAP = (('empty', ()), ('insert', (('of', 0), 2)), ('insert', (('of', 1), 1)), ('merge', (('of', 2), ('of', 1))), ('without', (('of', 3),)), ('least', (('of', 4),)))
>>> [meanings('deque', DEQUE)[3:], meanings('joined', JOINED)[4:], meanings('heap', HEAP)[3:]]
[(('answer', 6), ('version', (5,)), ('answer', 5)), (('version', (4, 3, 4)), ('answer', 4)), (('version', (1, 2, 2)), ('version', (2, 2)), ('answer', 2))]
>>> from debtsheld.kinds import judge_kind
>>> from debtsheld.shelf import keeps, promise, shelf
>>> DEQUE = (('empty', ()), ('front', (5, ('of', 0))), ('back', (('of', 1), 6)), ('last', (('of', 2),)), ('init', (('of', 2),)), ('first', (('of', 4),)))
>>> JOINED = (('one', (3,)), ('one', (4,)), ('join', (('of', 0), ('of', 1))), ('join', (('of', 2), ('of', 2))), ('rest', (('of', 3),)), ('first', (('of', 4),)))
>>> HEAP = (('empty', ()), ('insert', (('of', 0), 2)), ('insert', (('of', 1), 1)), ('merge', (('of', 2), ('of', 1))), ('without', (('of', 3),)), ('least', (('of', 4),)))
>>> [[judge_kind(kind, shelf(name), world), keeps(kind, shelf(name), world, promise(name))] for kind, name, world in (('deque', 'deque', DEQUE), ('joined', 'joined', JOINED), ('heap', 'binomial', HEAP), ('heap', 'leftist', HEAP))]
[[('right',), True], [('right',), True], [('right',), True], [('right',), True]]
>>> from debtsheld.programs import read_program
>>> from debtsheld.shelf import keeps
>>> from debtsheld.worlds import steps
>>> TWO = read_program('(def empty () (Q (N) (N)))\n(def rev (l a) (case l ((N) a) ((C x t) (rev t (C x a)))))\n(def check (f r) (case f ((N) (Q (rev r (N)) (N))) ((C x t) (Q f r))))\n(def put (q x) (case q ((Q f r) (check f (C x r)))))\n(def first (q) (case q ((Q f r) (case f ((C x t) x)))))\n(def rest (q) (case q ((Q f r) (case f ((C x t) (check t r))))))')
>>> WORLD = (('empty', ()), ('put', (('of', 0), 7)), ('put', (('of', 1), 8)), ('first', (('of', 2),)), ('rest', (('of', 2),)), ('first', (('of', 0),)))
>>> [steps(TWO, WORLD), keeps('queue', TWO, WORLD, ('each', 24)), keeps('queue', TWO, WORLD, ('each', 23)), keeps('queue', TWO, WORLD, ('line', 1))]
[(3, 24, 12, 5, 24, 4), True, False, True]
>>> from debtsheld.made import branched, slow_world
>>> from debtsheld.shelf import shelf
>>> from debtsheld.worlds import steps
>>> WORLD = (('empty', ()), ('put', (('of', 0), 7)), ('put', (('of', 1), 8)), ('first', (('of', 2),)), ('rest', (('of', 2),)), ('first', (('of', 0),)))
>>> [len(slow_world(4)) <= 12, sum(steps(shelf('eager'), slow_world(4))) >= 160, branched('queue', WORLD[:3], 1, 2)[3:], branched('queue', WORLD, 2, 1)[6:]]
[True, True, (('put', (('of', 1), 8)), ('put', (('of', 1), 8))), (('first', (('of', 2),)), ('rest', (('of', 2),)))]
>>> from debtsheld.desk import Desk
>>> from debtsheld.programs import read_program
>>> DESK = Desk(read_program('(def empty () (Q (N) (N)))\n(def rev (l a) (case l ((N) a) ((C x t) (rev t (C x a)))))\n(def check (f r) (case f ((N) (Q (rev r (N)) (N))) ((C x t) (Q f r))))\n(def put (q x) (case q ((Q f r) (check f (C x r)))))\n(def first (q) (case q ((Q f r) (case f ((C x t) x)))))\n(def rest (q) (case q ((Q f r) (case f ((C x t) (check t r))))))'))
>>> [DESK.do(('empty', ())), DESK.mark(), DESK.do(('put', (('of', 0), 7)))[1], DESK.steps(), DESK.undo(), DESK.world(), DESK.undo(), DESK.undo()]
[(('value', ('Q', (('N', ()), ('N', ())))), 3, (), ()), 0, 24, 27, True, (('empty', ()),), True, False]
"""


def answer(line, names):
    """What the document shows below a line, or None if it shows nothing."""
    try:
        if isinstance(ast.parse(line).body[0], ast.Expr):
            return repr(eval(line, names))
        exec(line, names)
    except Exception as e:
        return "raises " + type(e).__name__ + "(" + repr(e.thing) + ")"
    return None


class ExampleTests(unittest.TestCase):

    def test_examples(self):
        names = {}
        lines = EXAMPLES.strip().split("\n")
        shown = 0
        for at, line in enumerate(lines):
            if not line.startswith(">>> "):
                continue
            below = lines[at + 1] if at + 1 < len(lines) and not lines[at + 1].startswith(">>> ") else None
            self.assertEqual(answer(line[4:], names), below)
            shown += below is not None
        self.assertEqual(shown, 15)

    def test_readme(self):
        # What shows a result there leaves it in builtins, where other tests look.
        self.addCleanup(vars(builtins).pop, "_", None)
        text = README.read_text(encoding="utf-8").replace("```", "")
        told = doctest.DocTestRunner().run(doctest.DocTestParser().get_doctest(text, {}, "README.md", "README.md", 0))
        self.assertEqual(told.failed, 0)
        self.assertGreater(told.attempted, 15)


if __name__ == "__main__":
    unittest.main()
