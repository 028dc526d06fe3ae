"""[1.1] What is a program."""

import unittest

from debtsheld.programs import is_program
from tests.samples import ANY_VALUES, BOX, FORMS, ONE, X, a_desk, program_of, wrapped

BRANCH = ("T", ("y",), ONE)

BAD_NAMES = (
    "def", "case", "let", "if", "delay", "force", "a" * 13, "", "X", "xY", "1x", "1", "x_", "_x", "x y", " x", "x ",
    "x\n", "\n", "x-", "x'", "\u00e4", "x\u00e9", "\u0661", "x\u00b2", "-", "+", "<", "(x)", "Tag", None, 1, True,
    (), ("x",), ["x"], {"x": 1}, a_desk(), b"x",
)
GOOD_NAMES = ("a", "z", "a" * 12, "x1", "x0123456789", "int", "name", "call", "make", "op", "defs", "iff", "lets",
              "forced", "casex", "a9z")

BAD_TAGS = (
    "x", "x1", "tAG", "T" * 13, "", "1T", "9", "T_", "_T", "T ", " T", "T\n", "T-", "\u00c4", "T\u00e4", "def", None,
    1, False, (), ("T",), ["T"], {}, a_desk(),
)
GOOD_TAGS = ("T", "Z", "A" * 12, "Tag", "T1", "TAG", "T0123456789", "Az9", "Def", "If")

# Each one is no expression, wherever it stands.
BAD_EXPRESSIONS = (
    # integers
    ("int",), ("int", 1, 1), ["int", 1], ("int", True), ("int", False), ("int", "1"), ("int", None), ("int", 1.0),
    ("int", (1,)), ("Int", 1), ("int ", 1), (1, "int"),
    # names
    ("name",), ("name", "x", "x"), ["name", "x"], ("x", "name"),
    # calls and makes
    ("call", "f"), ("call", "f", (), ()), ["call", "f", ()], ("call", "f", []), ("call", "f", [ONE]),
    ("call", "f", ONE), ("call", "f", (1,)), ("call", "f", ("x",)), ("call", "f", X, X), ("call", "f", None),
    ("call", "f", (ONE, None)), ("call", "f", (["int", 1],)), ("call", "F", ()),
    ("make", "T"), ("make", "T", (), ()), ["make", "T", ()], ("make", "T", []), ("make", "T", [ONE]),
    ("make", "T", ONE), ("make", "T", (1,)), ("make", "T", ONE, ONE), ("make", "T", None), ("make", "t", ()),
    # cases
    ("case", X), ("case", X, (BRANCH,), ()), ["case", X, (BRANCH,)], ("case", X, ()), ("case", X, []),
    ("case", X, [BRANCH]), ("case", X, BRANCH), ("case", 1, (BRANCH,)), ("case", "x", (BRANCH,)),
    ("case", X, (list(BRANCH),)), ("case", X, (BRANCH, None)), ("case", X, (("T", ("y",)),)),
    ("case", X, (("T", ("y",), ONE, ONE),)), ("case", X, (("T", ["y"], ONE),)), ("case", X, (("T", "y", ONE),)),
    ("case", X, (("T", ("y",), 1),)), ("case", X, (("T", ("y",), None),)), ("case", X, ((("y",), "T", ONE),)),
    ("case", X, ((),)), ("case", X, None), ("case", X, BRANCH, BRANCH), ("case", X, ((("T", "y"), ONE),)),
    ("case", X, (BRANCH, ("t", (), ONE))), ("case", X, (BRANCH, ("U", ("y", "Y"), ONE))),
    # lets
    ("let", "y", ONE), ("let", "y", ONE, ONE, ONE), ["let", "y", ONE, ONE], ("let", "y", 1, ONE),
    ("let", "y", ONE, 1), ("let", X, ONE, ONE), ("let", ("y",), ONE, ONE), ("let",),
    # ifs
    ("if", "<", ONE, ONE, ONE), ("if", "<", ONE, ONE, ONE, ONE, ONE), ["if", "<", ONE, ONE, ONE, ONE],
    ("if", ">", ONE, ONE, ONE, ONE), ("if", "<=", ONE, ONE, ONE, ONE), ("if", "==", ONE, ONE, ONE, ONE),
    ("if", "", ONE, ONE, ONE, ONE), ("if", "+", ONE, ONE, ONE, ONE), ("if", None, ONE, ONE, ONE, ONE),
    ("if", ["<"], ONE, ONE, ONE, ONE), ("if", ("<",), ONE, ONE, ONE, ONE), ("if", "<", 1, ONE, ONE, ONE),
    ("if", "<", ONE, 1, ONE, ONE), ("if", "<", ONE, ONE, 1, ONE), ("if", "=", ONE, ONE, ONE, 1),
    ("if", "<\n", ONE, ONE, ONE, ONE), ("if", "=<", ONE, ONE, ONE, ONE), ("if", ONE, ONE, ONE, ONE),
    # operators
    ("op", "+", ONE), ("op", "+", ONE, ONE, ONE), ["op", "+", ONE, ONE], ("op", "/", ONE, ONE),
    ("op", "", ONE, ONE), ("op", "<", ONE, ONE), ("op", "=", ONE, ONE), ("op", "**", ONE, ONE),
    ("op", "+-", ONE, ONE), ("op", None, ONE, ONE), ("op", ["+"], ONE, ONE), ("op", {}, ONE, ONE),
    ("op", "+", 1, ONE), ("op", "*", ONE, 1), ("op", "-", ONE, []), ("+", ONE, ONE), ("op", " + ", ONE, ONE),
    # delays and forces
    ("delay",), ("delay", ONE, ONE), ["delay", ONE], ("delay", 1), ("delay", ()), ("delay", [X]), ("delay", (X,)),
    ("force",), ("force", ONE, ONE), ["force", ONE], ("force", 1), ("force", ()), ("force", "x"),
    # others
    (), [], {}, None, True, 0, "", "x", (None,), ("",), ("def",), ("def", "f", (), ONE), ("zzz",), ("zzz", 1),
    (("int", 1),), ((), 1), ([], 1), ({}, 1), ("branch", "T", (), ONE), BRANCH, a_desk(), BOX, BOX[0],
)


class ProgramTests(unittest.TestCase):

    def assert_program(self, thing):
        self.assertIs(is_program(thing), True, repr(thing)[:300])

    def assert_no_program(self, thing):
        self.assertIs(is_program(thing), False, repr(thing)[:300])

    def test_each_form_alone(self):
        for e, _ in FORMS:
            self.assert_program(program_of(e))

    def test_each_form_in_each_other(self):
        for e, text in FORMS:
            for outer, outer_text in wrapped(e, text):
                self.assert_program(program_of(outer))
                for outermost, _ in wrapped(outer, outer_text):
                    self.assert_program(program_of(outermost))

    def test_bad_expressions_alone_and_within(self):
        for bad in BAD_EXPRESSIONS:
            self.assert_no_program(program_of(bad))
            for outer, _ in wrapped(bad, ""):
                self.assert_no_program(program_of(outer))

    def test_a_part_more_less_or_listed(self):
        for e, _ in FORMS:
            self.assert_no_program(program_of(e[:-1]))
            self.assert_no_program(program_of(e[1:]))
            self.assert_no_program(program_of(e + (ONE,)))
            self.assert_no_program(program_of(list(e)))
            for at, part in enumerate(e):
                if isinstance(part, tuple):
                    self.assert_no_program(program_of(e[:at] + (list(part),) + e[at + 1:]))

    def places_of_names(self, name):
        return (
            ((name, (), ONE),),
            (("f", (name,), ONE),),
            (("f", ("x", name), ONE),),
            program_of(("name", name)),
            program_of(("call", name, ())),
            program_of(("call", name, (X,))),
            program_of(("let", name, ONE, ONE)),
            program_of(("case", X, (("T", (name,), ONE),))),
            program_of(("case", X, (("U", (), ONE), ("T", ("y", name), ONE)))),
        )

    def places_of_tags(self, tag):
        return (
            program_of(("make", tag, ())),
            program_of(("make", tag, (X,))),
            program_of(("case", X, ((tag, (), ONE),))),
            program_of(("case", X, (("U", (), ONE), (tag, ("y",), ONE)))),
        )

    def test_names(self):
        for name in GOOD_NAMES:
            for program in self.places_of_names(name):
                self.assert_program(program)
        for name in BAD_NAMES:
            for program in self.places_of_names(name):
                self.assert_no_program(program)

    def test_tags(self):
        for tag in GOOD_TAGS:
            for program in self.places_of_tags(tag):
                self.assert_program(program)
        for tag in BAD_TAGS:
            for program in self.places_of_tags(tag):
                self.assert_no_program(program)

    def test_definitions(self):
        good = ("f", (), ONE)
        self.assert_program((good,))
        self.assert_program((good, good))
        self.assert_program((("f", ("x", "x"), ONE),))
        for bad in (("f", ()), ("f", (), ONE, ONE), ["f", (), ONE], ("f", [], ONE), ("f", ["x"], ONE), ("f", "x", ONE),
                    ("f", None, ONE), ("f", (), None), ("f", (), 1), ((), "f", ONE), (), None, 1, "f",
                    ("def", "f", (), ONE), {}, []):
            self.assert_no_program((bad,))
            self.assert_no_program((good, bad))
            self.assert_no_program((bad, good))

    def test_programs_as_a_whole(self):
        self.assert_program(BOX)
        for thing in ((), list(BOX), (BOX,), BOX[0], BOX + (None,), BOX + ((),)):
            self.assert_no_program(thing)

    def test_faults_do_not_matter(self):
        for program in ((("f", (), ONE), ("f", (), ONE)), (("f", ("x", "x"), ONE),), (("f", (), X),),
                        (("f", (), ("call", "g", ())),),
                        (("f", (), ("op", "+", ("make", "T", ()), ("make", "T", (ONE,)))),),
                        (("f", (), ("case", ONE, (("T", (), ONE), ("T", (), ONE)))),)):
            self.assert_program(program)

    def test_a_bool_asked_behind_its_equal(self):
        for n, equal in ((1, True), (0, False)):
            for outer in (lambda e: e, lambda e: ("delay", e), lambda e: ("call", "f", (e,))):
                right, wrong = program_of(outer(("int", n))), program_of(outer(("int", equal)))
                self.assertEqual(right, wrong)
                self.assert_program(right)
                self.assert_no_program(wrong)
                self.assert_program(right)

    def test_any_values(self):
        for thing in ANY_VALUES:
            self.assert_no_program(thing)

    def test_any_values_as_parts(self):
        for thing in ANY_VALUES:
            if thing not in (("f", (), ONE), BOX[0]):
                self.assert_no_program((BOX[0], thing))
                self.assert_no_program((thing, BOX[0]))
            if thing not in ((), ("f",)):
                self.assert_no_program((("f", thing, ONE), BOX[0]))
            if thing != ONE:
                self.assert_no_program((("f", (), thing),))

    def test_integers(self):
        for n in (0, 1, -1, 999999999999, -999999999999, 10 ** 39, -10 ** 39):
            self.assert_program(program_of(("int", n)))


if __name__ == "__main__":
    unittest.main()
