"""[2.1] Faults, and what is checked."""

import random
import unittest

from debtsheld.checker import fault, is_checked
from debtsheld.errors import BadProgram
from debtsheld.programs import program_text, read_program
from tests.samples import ANY_VALUES, BOX, FORMS, ONE, X, outcome, program_of, wrapped

KINDS = ("twice", "parameter", "unbound", "call", "tag", "branch")

# For each kind definitions with just one fault of it, and this fault.
ALONE = (
    ("(def t () 1)\n(def t () 2)", ("twice", "t")),
    ("(def p (x x) x)", ("parameter", "p", "x")),
    ("(def u (x) y)", ("unbound", "u", "y")),
    ("(def c (x) (none x))", ("call", "c", "none")),
    ("(def g (x) (+ (G) (G x)))", ("tag", "g", "G")),
    ("(def b (x) (case x ((B) 1) ((B) 2)))", ("branch", "b", "B")),
)

# The same faults as expressions, with x bound: they can stand in one body.
IN_BODIES = (
    ("(case x ((P y z y) 1))", ("parameter", "f", "y")),
    ("(+ x w)", ("unbound", "f", "w")),
    ("(f)", ("call", "f", "f")),
    ("(+ (G) (G x))", ("tag", "f", "G")),
    ("(case x ((B) 1) ((B) 2))", ("branch", "f", "B")),
)

FAULTS = (
    # twice
    ("(def f () 1) (def g () 1) (def g () 1) (def f () 1)", ("twice", "g")),
    ("(def f () 1) (def g () 1) (def f () 1) (def g () 1)", ("twice", "f")),
    ("(def f () 1) (def f (x) x) (def f () 1)", ("twice", "f")),
    ("(def f () 1) (def g () 1) (def h () 1)", None),
    # parameters: the one whose second occurrence comes first
    ("(def f (x y y x) 1)", ("parameter", "f", "y")),
    ("(def f (x y x y) 1)", ("parameter", "f", "x")),
    ("(def f (x x x) 1)", ("parameter", "f", "x")),
    ("(def f (f) f)", None),
    ("(def f (x) (case x ((A x) x)))", None),
    ("(def f (x) (case x ((A y) y) ((B y) y)))", None),
    ("(def f (x) (case x ((A y z z y) y)))", ("parameter", "f", "z")),
    ("(def f (x x) (case x ((A y y) y)))", ("parameter", "f", "x")),
    ("(def f (x) (case x ((A y y) y))) (def g (z z) z)", ("parameter", "f", "y")),
    ("(def g (z z) z) (def f (x) (case x ((A y y) y)))", ("parameter", "g", "z")),
    ("(def f (x) (case x ((A y y) 1) ((B z z) 1)))", ("parameter", "f", "y")),
    ("(def f (x) (case x ((A y) 1) ((B z z) 1)))", ("parameter", "f", "z")),
    # the expression of a case stands before its branches, the body behind its tag
    ("(def f (x) (case (case x ((A y y) 1)) ((B z z) 1)))", ("parameter", "f", "y")),
    ("(def f (x) (case x ((B z z) (case x ((A y y) 1)))))", ("parameter", "f", "z")),
    ("(def f (x) (case x ((B z) (case x ((A y y) 1))) ((C w w) 1)))", ("parameter", "f", "y")),
    ("(def f (x) (+ (delay (case x ((A y y) 1))) (case x ((B z z) 1))))", ("parameter", "f", "y")),
    ("(def f (x) (let y 1 (let y 2 y)))", None),
    # unbound
    ("(def f () f)", ("unbound", "f", "f")),
    ("(def f (x) x) (def g () x)", ("unbound", "g", "x")),
    ("(def f () (+ a b))", ("unbound", "f", "a")),
    ("(def f () (+ 1 b)) (def g () a)", ("unbound", "f", "b")),
    ("(def f (x) (let y x y))", None),
    ("(def f (x) (let y y y))", ("unbound", "f", "y")),
    ("(def f (x) (let y 1 (let z y (+ y z))))", None),
    ("(def f (x) (+ (let y 1 y) y))", ("unbound", "f", "y")),
    ("(def f (x) (let y (let z 1 z) z))", ("unbound", "f", "z")),
    ("(def f (x) (let x x x))", None),
    ("(def f () (let x x x))", ("unbound", "f", "x")),
    ("(def f (x) (case x ((A y) y) ((B z) z)))", None),
    ("(def f (x) (case x ((A y) y) ((B z) y)))", ("unbound", "f", "y")),
    ("(def f (x) (case y ((A y) y)))", ("unbound", "f", "y")),
    ("(def f (x) (case (case x ((A y) y)) ((B z) y)))", ("unbound", "f", "y")),
    ("(def f (x) (case x ((A y) (case y ((A z) (+ y z))))))", None),
    ("(def f (x) (+ (case x ((A y) y)) y))", ("unbound", "f", "y")),
    ("(def f (x) (delay x))", None),
    ("(def f (x) (delay y))", ("unbound", "f", "y")),
    ("(def f (x) (let y 1 (delay (+ x y))))", None),
    ("(def f (x) (case x ((A y) (delay (force y)))))", None),
    ("(def f (x) (+ (delay (let y 1 y)) (force y)))", ("unbound", "f", "y")),
    ("(def f (x) (f a))", ("unbound", "f", "a")),
    ("(def f (x) (T 1 a))", ("unbound", "f", "a")),
    ("(def f (x) (if < x a b c))", ("unbound", "f", "a")),
    ("(def f (x) (if < x 1 b c))", ("unbound", "f", "b")),
    ("(def f (x) (if < x 1 2 c))", ("unbound", "f", "c")),
    ("(def f (x) (case a ((T) b)))", ("unbound", "f", "a")),
    ("(def f (x) (case x ((T) b) ((U) c)))", ("unbound", "f", "b")),
    ("(def f (x) (let y a b))", ("unbound", "f", "a")),
    # calls
    ("(def f (x) (f x))", None),
    ("(def f (x) (g x)) (def g (y) (f y))", None),
    ("(def f (x) (x))", ("call", "f", "x")),
    ("(def f (x) (f))", ("call", "f", "f")),
    ("(def f (x) (f x x))", ("call", "f", "f")),
    ("(def f () (f)) (def g (x) (f x))", ("call", "g", "f")),
    ("(def f (x) (g (h)))", ("call", "f", "g")),
    ("(def f (x) (f (h)))", ("call", "f", "h")),
    ("(def f (x) (+ (f (h)) (g)))", ("call", "f", "h")),
    ("(def f (x) (case (h) ((A) (g))))", ("call", "f", "h")),
    ("(def f (x) (case x ((A) (g)) ((B) (h))))", ("call", "f", "g")),
    ("(def f (x) (delay (g)))", ("call", "f", "g")),
    ("(def f (x) (let g 1 (g)))", ("call", "f", "g")),
    ("(def f () (g)) (def h () (k))", ("call", "f", "g")),
    # tags: places in several definitions
    ("(def f () (A 1)) (def g () (A 2))", None),
    ("(def f () (A 1)) (def g () (A))", ("tag", "g", "A")),
    ("(def f (x) (case x ((A y) y))) (def g () (A))", ("tag", "g", "A")),
    ("(def f () (A)) (def g (x) (case x ((A y) y)))", ("tag", "g", "A")),
    ("(def f (x) (case x ((A y) y))) (def g (x) (case x ((A) 1)))", ("tag", "g", "A")),
    ("(def f () (A)) (def g () 1) (def h () (+ (B) (A 1)))", ("tag", "h", "A")),
    ("(def f () (A)) (def g () (B 1)) (def h () (+ (B) (A 1)))", ("tag", "h", "B")),
    ("(def f () (A (A)))", ("tag", "f", "A")),
    ("(def f () (A (A (A 1))))", None),
    ("(def f () (A (B) (B 1) (A)))", ("tag", "f", "B")),
    ("(def f () (+ (A) (+ (A) (A 1))))", ("tag", "f", "A")),
    ("(def f (x) (case (A) ((A y) (B)) ((B y) 1)))", ("tag", "f", "A")),
    ("(def f (x) (case (B 1) ((A y) (B)) ((A) 1)))", ("tag", "f", "B")),
    ("(def f (x) (case x ((A y) (B)) ((B y) (A))))", ("tag", "f", "B")),
    ("(def f (x) (case x ((A) (A 1)) ((B) 1)))", ("tag", "f", "A")),
    ("(def f (x) (case x ((A) 1) ((A y) 1)))", ("tag", "f", "A")),
    ("(def f (x) (delay (+ (A) (A x))))", ("tag", "f", "A")),
    ("(def f (a) (A a)) (def a () (A 1))", None),
    # branches
    ("(def f (x) (case x ((A) 1) ((B) 2)))", None),
    ("(def f (x) (+ (case x ((A) 1)) (case x ((A) 1))))", None),
    ("(def f (x) (case x ((A) (case x ((A) 1)))))", None),
    ("(def f (x) (case (case x ((A) 1)) ((A) 1)))", None),
    ("(def f (x) (case x ((A) 1) ((B) 1) ((B) 1) ((A) 1)))", ("branch", "f", "B")),
    ("(def f (x) (case x ((A) 1) ((B) 1) ((A) 1) ((B) 1)))", ("branch", "f", "A")),
    ("(def f (x) (case (case x ((A) 1) ((A) 2)) ((B) 1) ((B) 2)))", ("branch", "f", "B")),
    ("(def f (x) (case x ((B) (case x ((A) 1) ((A) 2))) ((B) 2)))", ("branch", "f", "B")),
    ("(def f (x) (case (case x ((A) 1) ((A) 2)) ((B) 1) ((C) 2)))", ("branch", "f", "A")),
    ("(def f (x) (case x ((B) (case x ((A) 1) ((A) 2))) ((C) 2)))", ("branch", "f", "A")),
    ("(def f (x) (case x ((B) (case x ((A) 1) ((A) 2))) ((C) (case x ((D) 1) ((D) 2)))))", ("branch", "f", "A")),
    ("(def f (x) (+ (case x ((A) 1) ((A) 2)) (case x ((B) 1) ((B) 2))))", ("branch", "f", "A")),
    ("(def f (x) (case x ((A) 1) ((A) 2))) (def g (x) (case x ((B) 1) ((B) 2)))", ("branch", "f", "A")),
    ("(def f (x) (delay (case x ((A) 1) ((A) 2))))", ("branch", "f", "A")),
    ("(def f (x) (case x ((A) 1) ((A) 2) ((A) 3)))", ("branch", "f", "A")),
)


def plain_fault(program):
    """The fault by another way: everything is listed in the order of the text, by recursion, and then searched."""
    listed = []
    for f, parameters, body in program:
        listed.append((f, parameters, everything(body, frozenset(parameters))))
    for at, (f, _, _) in enumerate(listed):
        if f in [g for g, _, _ in listed[:at]]:
            return ("twice", f)
    for f, parameters, marks in listed:
        for names in [parameters] + [mark[2] for mark in marks if mark[0] == "branch"]:
            for at, x in enumerate(names):
                if x in names[:at]:
                    return ("parameter", f, x)
    for f, _, marks in listed:
        for mark in marks:
            if mark[0] == "name" and mark[1] not in mark[2]:
                return ("unbound", f, mark[1])
    for f, _, marks in listed:
        for mark in marks:
            if mark[0] == "call" and (mark[1], mark[2]) not in [(g, len(names)) for g, names, _ in listed]:
                return ("call", f, mark[1])
    earlier = []
    for f, _, marks in listed:
        for mark in marks:
            if mark[0] in ("make", "branch"):
                tag, size = mark[1], mark[2] if mark[0] == "make" else len(mark[2])
                if [1 for one, other in earlier if one == tag and other != size]:
                    return ("tag", f, tag)
                earlier.append((tag, size))
    for f, _, marks in listed:
        for mark in marks:
            if mark[0] == "case":
                for at, tag in enumerate(mark[1]):
                    if tag in mark[1][:at]:
                        return ("branch", f, tag)
    return None


def everything(e, bound):
    word = e[0]
    if word == "name":
        return [("name", e[1], bound)]
    if word in ("call", "make"):
        marks = [(word, e[1], len(e[2]))]
        for part in e[2]:
            marks = marks + everything(part, bound)
        return marks
    if word == "case":
        marks = [("case", [branch[0] for branch in e[2]])] + everything(e[1], bound)
        for tag, names, body in e[2]:
            marks = marks + [("branch", tag, names)] + everything(body, bound | frozenset(names))
        return marks
    if word == "let":
        return everything(e[2], bound) + everything(e[3], bound | frozenset([e[1]]))
    marks = []
    for part in e[1:]:
        if isinstance(part, tuple):
            marks = marks + everything(part, bound)
    return marks


def some_expression(chance, depth, names, tags):
    kind = chance.choice(("int", "name")) if depth == 0 else chance.choice(
        ("int", "name", "call", "make", "case", "case", "let", "if", "op", "delay", "force"))

    def deeper():
        return some_expression(chance, depth - 1, names, tags)

    if kind == "int":
        return ("int", chance.randrange(-3, 12))
    if kind == "name":
        return ("name", chance.choice(names))
    if kind == "call":
        return ("call", chance.choice("fgh"), tuple(deeper() for _ in range(chance.choice((1, 1, 1, 0, 2)))))
    if kind == "make":
        tag = chance.choice(tags)
        return ("make", tag, tuple(deeper() for _ in range(len(tag) if chance.random() < 0.9 else 1)))
    if kind == "case":
        branches = []
        for tag in chance.sample(tags, chance.randrange(1, 3)) + chance.choices(tags, k=chance.random() < 0.2):
            size = len(tag) if chance.random() < 0.95 else 0
            branches.append((tag, tuple(chance.sample(names, size)), deeper()))
        return ("case", deeper(), tuple(branches))
    if kind == "let":
        return ("let", chance.choice(names), deeper(), deeper())
    if kind == "if":
        return ("if", chance.choice("<="), deeper(), deeper(), deeper(), deeper())
    if kind == "op":
        return ("op", chance.choice("+-*"), deeper(), deeper())
    return (kind, deeper())


def some_program(seed):
    chance = random.Random(seed)
    names = ["x", "y", "z"][:chance.choice((2, 2, 3))]
    definitions = []
    for f in "fgh" if chance.random() < 0.8 else "fgfh":
        parameters = ["x", "y"][:1] if chance.random() < 0.7 else [chance.choice(names) for _ in range(2)]
        definitions.append((f, tuple(parameters), some_expression(chance, chance.randrange(1, 4), names,
                                                                  ["A", "Bb", "Cc"])))
    return tuple(definitions)


class FaultTests(unittest.TestCase):

    def assert_fault(self, program, expected):
        text = program_text(program)
        self.assertEqual(fault(program), expected, text)
        self.assertEqual(repr(fault(program)), repr(expected), text)
        self.assertIs(is_checked(program), expected is None, text)

    def test_each_kind_alone(self):
        self.assertEqual(tuple(expected[0] for _, expected in ALONE), KINDS)
        for text, expected in ALONE:
            self.assert_fault(read_program(text), expected)

    def test_each_pair_of_kinds_in_either_order(self):
        for at, (text, expected) in enumerate(ALONE):
            for other, _ in ALONE[at + 1:]:
                self.assert_fault(read_program(text + other), expected)
                self.assert_fault(read_program(other + text), expected)

    def test_all_kinds_at_once(self):
        for at, (_, expected) in enumerate(ALONE):
            texts = [text for text, _ in ALONE[at:]]
            self.assert_fault(read_program("\n".join(texts)), expected)
            self.assert_fault(read_program("\n".join(texts[::-1])), expected)

    def test_pairs_of_kinds_in_one_body(self):
        for at, (text, expected) in enumerate(IN_BODIES):
            self.assert_fault(read_program("(def f (x) " + text + ")"), expected)
            for other, _ in IN_BODIES[at + 1:]:
                for first, second in ((text, other), (other, text)):
                    self.assert_fault(read_program("(def f (x) (+ " + first + " " + second + "))"), expected)
                    self.assert_fault(read_program("(def f (x) (case " + first + " ((V v) " + second + ")))"), expected)
                    self.assert_fault(read_program("(def f (x) (let v " + first + " (delay " + second + ")))"), expected)

    def test_two_of_one_kind_in_one_definition_and_in_two(self):
        for kind, a, b in (
            ("unbound", "a", "b"), ("call", "(a)", "(b)"), ("tag", "(+ (A) (A 1))", "(+ (B) (B 1))"),
            ("branch", "(case x ((A) 1) ((A) 1))", "(case x ((B) 1) ((B) 1))"),
            ("parameter", "(case x ((A a a) 1))", "(case x ((B b b) 1))"),
        ):
            for first, second in ((a, b), (b, a)):
                part = "a" if first == a else "b"
                part = part.upper() if kind in ("tag", "branch") else part
                expected = (kind, "f", part)
                self.assert_fault(read_program("(def f (x) (- " + first + " " + second + "))"), expected)
                self.assert_fault(read_program("(def f (x) " + first + ") (def g (x) " + second + ")"), expected)
                self.assert_fault(read_program("(def e (x) x) (def f (x) " + first + ") (def g (x) " + second + ")"),
                                  expected)

    def test_faults_and_none(self):
        for text, expected in FAULTS:
            self.assert_fault(read_program(text), expected)

    def test_a_fault_in_each_place(self):
        extra = (("g", ("x",), ONE), ("h", (), ONE))
        for e, expected in (
            (("name", "w"), ("unbound", "f", "w")),
            (("call", "h", (ONE,)), ("call", "f", "h")),
            (("case", X, (("D", ("w", "w"), ONE),)), ("parameter", "f", "w")),
            (("op", "+", ("make", "D", ()), ("make", "D", (ONE,))), ("tag", "f", "D")),
            (("case", X, (("D", (), ONE), ("D", (), ONE))), ("branch", "f", "D")),
        ):
            for outer, _ in wrapped(e, ""):
                if outer[0] == "call":
                    outer = ("call", "g", (e,))
                self.assert_fault((("f", ("x",), outer),) + extra, expected)

    def test_each_form_without_a_fault(self):
        for e, _ in FORMS:
            if e[0] not in ("name", "call", "case"):
                self.assert_fault(program_of(e), None)
        self.assert_fault(BOX, None)

    def test_not_a_program(self):
        for thing in ANY_VALUES + (program_of(("int", True)), program_of(("int", "1"))):
            for function in (fault, is_checked):
                with self.assertRaises(BadProgram) as caught:
                    function(thing)
                self.assertIs(caught.exception.thing, thing)

    def test_a_bool_behind_its_equal(self):
        self.assertIs(fault(program_of(("int", 1))), None)
        wrong = program_of(("int", True))
        self.assertEqual(outcome(fault, wrong), ("raised", "BadProgram", wrong))
        self.assertEqual(outcome(is_checked, wrong), ("raised", "BadProgram", wrong))

    def test_against_another_way(self):
        met = {}
        for seed in range(3000):
            program = some_program(seed)
            expected = plain_fault(program)
            self.assert_fault(program, expected)
            self.assertEqual(read_program(program_text(program)), program)
            kind = expected and expected[0]
            met[kind] = met.get(kind, 0) + 1
        for kind in KINDS + (None,):
            self.assertGreater(met.get(kind, 0), 5, met)


if __name__ == "__main__":
    unittest.main()
