"""The limits of parts 1 and 2: what lies at their edges is answered promptly, and going beyond is no error."""

import time
import unittest

from debtsheld.checker import fault, is_checked
from debtsheld.errors import BadText
from debtsheld.programs import is_program, program_text, read_program
from tests.samples import ONE, X, nested, nested_text, program_of

SECONDS = 2


def count_of(e):
    """The number of expressions of an expression."""
    parts = [part for part in e[1:] if isinstance(part, tuple)]
    if e[0] in ("call", "make"):
        parts = list(e[2])
    if e[0] == "case":
        parts = [e[1]] + [branch[2] for branch in e[2]]
    return 1 + sum(count_of(part) for part in parts)


class LimitTests(unittest.TestCase):

    def setUp(self):
        self.began = time.perf_counter()

    def tearDown(self):
        self.assertLess(time.perf_counter() - self.began, SECONDS)

    def assert_all(self, program, text, expected):
        self.assertIs(is_program(program), True)
        self.assertEqual(program_text(program), text)
        self.assertEqual(read_program(text), program)
        self.assertEqual(fault(program), expected)
        self.assertIs(is_checked(program), expected is None)

    def test_60_definitions(self):
        for many in (60, 61, 200):
            program = tuple(("f" + str(k), ("x",), ("call", "f" + str((k + 1) % many), (X,))) for k in range(many))
            text = "\n".join("(def f" + str(k) + " (x) (f" + str((k + 1) % many) + " x))" for k in range(many))
            self.assert_all(program, text, None)
            self.assert_all(program + program[-1:], text + "\n" + text.split("\n")[-1], ("twice", "f" + str(many - 1)))

    def test_1500_expressions(self):
        row = ("make", "T", (ONE,) * 24)
        for rows in (60, 100):
            program = tuple(("f" + str(k), (), row) for k in range(rows))
            self.assertEqual(sum(count_of(body) for _, _, body in program), rows * 25)
            text = "\n".join("(def f" + str(k) + " () (T" + " 1" * 24 + "))" for k in range(rows))
            self.assert_all(program, text, None)
            worse = program + (("g", (), ("make", "T", ())),)
            self.assert_all(worse, text + "\n(def g () (T))", ("tag", "g", "T"))

    def test_1500_expressions_in_one_row(self):
        for many in (1499, 3000):
            text = "(def f (x) (T" + " x" * many + "))"
            self.assert_all(program_of(("make", "T", (X,) * many)), text, None)

    def test_many_scopes(self):
        names = ["n" + str(k) for k in range(2000)]
        lets = "(let y 1 y) " * 700
        text = "(def f (" + " ".join(names) + ") (T " + lets.strip() + "))"
        self.assertEqual(program_text(read_program(text)), text)
        self.assertIs(fault(read_program(text)), None)

    def test_20_deep(self):
        for depth in (20, 21, 40):
            self.assert_all(program_of(nested(depth)), "(def f (x) " + nested_text(depth) + ")", None)

    def test_each_form_20_deep(self):
        for start, end, build in (
            ("(f ", ")", lambda e: ("call", "f", (e,))), ("(T ", ")", lambda e: ("make", "T", (e,))),
            ("(case ", " ((T y) y))", lambda e: ("case", e, (("T", ("y",), ("name", "y")),))),
            ("(let y ", " y)", lambda e: ("let", "y", e, ("name", "y"))),
            ("(let x 1 ", ")", lambda e: ("let", "x", ONE, e)), ("(if < 1 1 1 ", ")", lambda e: ("if", "<", ONE, ONE, ONE, e)),
            ("(- ", " 1)", lambda e: ("op", "-", e, ONE)), ("(delay ", ")", lambda e: ("delay", e)),
            ("(force ", ")", lambda e: ("force", e)),
        ):
            for depth in (20, 30):
                e = X
                for _ in range(depth - 1):
                    e = build(e)
                self.assert_all(program_of(e), "(def f (x) " + start * (depth - 1) + "x" + end * (depth - 1) + ")", None)

    def test_far_deeper(self):
        e = X
        for _ in range(5000):
            e = ("delay", e)
        text = "(def f (x) " + "(delay " * 5000 + "x" + ")" * 5001
        self.assertEqual(program_text(program_of(e)), text)
        self.assertEqual(program_text(read_program(text)), text)
        self.assertIs(fault(read_program(text)), None)
        self.assertIs(is_program(program_of(("delay", e[:1]))), False)

    def test_integers_of_12_digits(self):
        for n in (10 ** 12 - 1, 1 - 10 ** 12, 10 ** 12, -10 ** 40):
            self.assert_all(program_of(("int", n)), "(def f (x) " + str(n) + ")", None)

    def test_3000_digits_in_a_row(self):
        for many in (3000, 3001, 4300):
            for digits in ("7" * many, "-" + "7" * many, "1" + "0" * (many - 1)):
                self.assert_all(program_of(("int", int(digits))), "(def f (x) " + digits + ")", None)
            for bad in ("0" * many, "-0" + "7" * (many - 1), "7" * many + "x", "x" + "7" * many, "7" * many + "-"):
                self.assert_bad("(def f (x) " + bad + ")")
            self.assert_bad("7" * many)

    def test_more_digits_than_python_reads_at_once(self):
        for text in ("(def f () " + "7" * 9000 + ")", "(def f () -" + "1" + "0" * 8000 + ")"):
            self.assertEqual(program_text(read_program(text)), text)
        self.assert_bad("(def f () 0" + "7" * 9000 + ")")

    def test_texts_of_20000_characters(self):
        for size in (20000, 20001, 30000):
            start, end = "(def f (x) (T", "))"
            inner = (" x" * size)[:size - len(start) - len(end) - 1] + " "
            text = start + inner + end
            self.assertEqual(len(text), size)
            program = read_program(text)
            self.assertEqual(program, program_of(("make", "T", (X,) * inner.count("x"))))
            self.assertIs(fault(program), None)
            self.assert_bad(text[:-1])
            self.assert_bad(text + ")")
            self.assert_bad(text[:size // 2] + "X" + text[size // 2:])

    def test_20000_blanks(self):
        text = "(" + " " * 10000 + "def f" + "\n" * 9000 + "() 1)"
        self.assertEqual(read_program(text), (("f", (), ONE),))
        self.assert_bad(" " * 20000)
        self.assert_bad("\n" * 20000)

    def test_brackets_60_deep(self):
        for depth in (60, 61, 400):
            for text in ("(" * depth, ")" * depth, "(" * depth + ")" * depth, "(" * depth + "x" + ")" * depth,
                         "(def f () " + "(" * (depth - 1) + ")" * (depth - 1) + ")",
                         "(def f " + "(" * (depth - 1) + "x" + ")" * (depth - 1) + " 1)"):
                self.assert_bad(text)
            text = "(def f () " + "(f " * (depth - 1) + "1" + ")" * (depth - 1) + ")"
            self.assertEqual(program_text(read_program(text)), text)
            self.assertEqual(fault(read_program(text)), ("call", "f", "f"))

    def test_10000_brackets(self):
        for text in ("(" * 20000, ")" * 20000, "(" * 10000 + ")" * 10000, "()" * 10000, "(def f ()" * 2000,
                     "(def f ()" + "(f" * 6000 + " 01" + ")" * 6001, "(((x) 1)" * 2000 + ")" * 2000):
            self.assert_bad(text)

    def assert_bad(self, text):
        with self.assertRaises(BadText) as caught:
            read_program(text)
        self.assertIs(caught.exception.thing, text)


if __name__ == "__main__":
    unittest.main()
