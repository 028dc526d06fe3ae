"""[1.2] The texts of programs, and how they are read."""

import unittest

from debtsheld.errors import BadProgram, BadText
from debtsheld.programs import is_program, program_text, read_program
from tests.samples import ANY_VALUES, BOX, BOX_TEXT, FORMS, ONE, X, a_desk, outcome, program_of, text_of, wrapped

BAD_EXPRESSION_TEXTS = (
    # integers that are written otherwise than Python writes them
    "01", "00", "-0", "-01", "--1", "+1", "1.0", "1e3", "0x1", "1_0", "1-", "-", "- 1", "\u0661", "1\u00b2",
    # words in the place of an expression
    "def", "case", "let", "if", "delay", "force", "+", "*", "<", "=", "Tag", "X", "x_y", "a" * 13, "x'", "1x", '"x"',
    "x,", "x;y",
    # brackets in the place of an expression
    "()", "(())", "((f))", "((f) x)", "((T))", "(1)", "(1 2)", "(-1)", "((x) y)", "(1x)", "(f ())",
    "(a_b 1)", "(" + "a" * 13 + ")", "(T" + "t" * 12 + ")",
    # words of the language
    "(def)", "(def f () 1)", "(f def)", "(f let x)", "(f case)", "(let def 1 1)", "(let let 1 1)", "(if)", "(case)",
    # cases
    "(case x)", "(case x ())", "(case x (T 1))", "(case x (T) 1)", "(case x ((T) 1 2))", "(case x ((T)))",
    "(case x ((t) 1))", "(case x (() 1))", "(case x (((T)) 1))", "(case x ((T 1) 1))", "(case x ((T Y) 1))",
    "(case x ((T (y)) 1))", "(case x (((T) 1)))", "(case x (((T) 1) ((U) 1)))", "(case ((T) 1))", "(case x T)",
    "(case x ((T) 1) 1)", "(case x ((T) 1) ())", "(case x y ((T) 1))", "(case x (T (y) 1))", "(case () ((T) 1))",
    "(case x ((T if) 1))", "(case x ((T) ()))", "(case x ((T)1)(U 1))",
    # lets
    "(let)", "(let x)", "(let x 1)", "(let x 1 2 3)", "(let 1 1 1)", "(let X 1 1)", "(let (x) 1 1)", "(let (x 1) x)",
    "(let x () 1)", "(let x 1 ())",
    # ifs and operators
    "(if < 1 2 3)", "(if < 1 2 3 4 5)", "(if > 1 2 3 4)", "(if <= 1 2 3 4)", "(if (< 1 2) 3 4)", "(if x 1 2 3 4)",
    "(if 1 < 2 3 4)", "(if + 1 2 3 4)", "(< 1 2)", "(= 1 2)", "(+ 1)", "(+)", "(+ 1 2 3)", "(/ 1 2)", "(1 + 2)",
    "(- 1)", "(** 1 2)", "(+ + +)", "((+) 1 2)", "(+1 2)", "(+1 2 3)",
    # delays and forces
    "(delay)", "(delay 1 2)", "(delay delay)", "(force)", "(force x y)", "(force ())", "(delay (1))",
    # too many or too few brackets
    "(f x", "f x)", "(f x))", "((f x)", ")", "(", ")(", ")f(", "(f x)(", "1)(1",
)

# These are no expressions, but some are the parts of a longer row.
BAD_ALONE_TEXTS = ("", " ", "1 1", "x y", "(x) (y)", "x 1", "1 (f)", "f (x)", "if < 1 2 3 4", "1 1)(def g () 1")

BAD_TEXTS = (
    "", " ", "\n", "x", "1", "def", "()", "(())", "(", ")", ")(", "(def)", "(def f)", "(def f ())", "(def f () 1 1)",
    "(def f () 1", "def f () 1", "def f () 1)", "(def f () 1))", "((def f () 1)", "((def f () 1))", "(def f x 1)",
    "(def f (1) 1)", "(def f (X) 1)", "(def f ((x)) 1)", "(def f (x (y)) 1)", "(def f (()) 1)", "(def F () 1)",
    "(def 1 () 1)", "(def (f) () 1)", "(def (f x) x)", "(def def () 1)", "(def if () 1)", "(def f (let) 1)",
    "(f () 1)", "(Def f () 1)", "(DEF f () 1)", "(define f () 1)", "(def f () 1) x", "x (def f () 1)",
    "(def f () 1) ()", "(def f () 1) (f)", "(def f () 1))(def g () 1)", "(def f () 1)(", "(deff () 1)", "(de f f () 1)",
    "(def\tf () 1)", "(def f ()\t1)", "(def f () 1)\r\n", "(def f () 1)\f", "\u00a0(def f () 1)", "(def f () 1);",
    "(def f () 1)\x00", "[def f () 1]", "'(def f () 1)'", "(def f () 1)\v(def g () 1)", "(let f () 1)",
    "(def f () \u2003 1)", "(def " + "f" * 13 + " () 1)", "#", "(def f () 1) # no", "(" * 3000, ")" * 3000, "()" * 1500,
    "(" * 1500 + ")" * 1500, "(def f () " + "(delay " * 370 + "()" + ")" * 371, "(def f()" + "(f" * 980 + " 01" + ")" * 981,
    "(" + "((def f () 1)" * 200 + ")" * 200,
)


class WrittenTests(unittest.TestCase):

    def test_each_form(self):
        for e, text in FORMS:
            self.assertEqual(program_text(program_of(e)), text_of(text))

    def test_each_form_in_each_other(self):
        for e, text in FORMS:
            for outer, outer_text in wrapped(e, text):
                self.assertEqual(program_text(program_of(outer)), text_of(outer_text))

    def test_definitions(self):
        self.assertEqual(program_text((("f", (), ONE),)), "(def f () 1)")
        self.assertEqual(program_text((("f", ("x", "y"), X),)), "(def f (x y) x)")
        self.assertEqual(program_text((("f", (), ONE), ("f", ("x",), X), ("g", (), ("int", -2)))),
                         "(def f () 1)\n(def f (x) x)\n(def g () -2)")
        self.assertEqual(program_text(BOX), BOX_TEXT)

    def test_bad_programs(self):
        for thing in ANY_VALUES + (program_of(("int", True)), program_of(["int", 1]), program_of(("name", "def"))):
            with self.assertRaises(BadProgram) as caught:
                program_text(thing)
            self.assertIs(caught.exception.thing, thing)


class ReadTests(unittest.TestCase):

    def assert_read(self, text, program):
        got = read_program(text)
        self.assertEqual(got, program)
        # Lists, bools and floats would show in it.
        self.assertEqual(repr(got), repr(program))
        self.assertIs(is_program(got), True)

    def assert_bad(self, text):
        with self.assertRaises(BadText) as caught:
            read_program(text)
        self.assertIs(caught.exception.thing, text)

    def test_each_form(self):
        for e, text in FORMS:
            self.assert_read(text_of(text), program_of(e))

    def test_each_form_in_each_other(self):
        for e, text in FORMS:
            for outer, outer_text in wrapped(e, text):
                self.assert_read(text_of(outer_text), program_of(outer))
                for outermost, outermost_text in wrapped(outer, outer_text):
                    self.assert_read(text_of(outermost_text), program_of(outermost))

    def test_several_definitions(self):
        self.assert_read(BOX_TEXT, BOX)
        self.assert_read("(def f () 1)\n(def f (x x) y)", (("f", (), ONE), ("f", ("x", "x"), ("name", "y"))))

    def test_blanks_and_line_feeds(self):
        for text in (BOX_TEXT.replace(" ", "\n"), BOX_TEXT.replace(" ", "  "), BOX_TEXT.replace("\n", ""),
                     BOX_TEXT.replace("\n", " "), BOX_TEXT.replace("(", " (\n ").replace(")", "\n\n) "),
                     BOX_TEXT.replace(" (", "(").replace(") ", ")"), "\n \n" + BOX_TEXT + " \n ",
                     BOX_TEXT.replace("\n", "\n\n\n")):
            self.assert_read(text, BOX)
        self.assert_read("( def  one() 1 )", (("one", (), ONE),))
        self.assert_read("(def f(x)(case x((A y)(f y))((B)1)))", (("f", ("x",), (
            "case", X, (("A", ("y",), ("call", "f", (("name", "y"),))), ("B", (), ONE)))),))

    def test_two_words_or_one(self):
        # A blank within a word makes two words; here both readings are programs.
        self.assert_read("(def f () (g ab))", (("f", (), ("call", "g", (("name", "ab"),))),))
        self.assert_read("(def f () (g a b))", (("f", (), ("call", "g", (("name", "a"), ("name", "b")))),))
        self.assert_read("(def f () (g -12))", (("f", (), ("call", "g", (("int", -12),))),))
        self.assert_read("(def f () (g -1 2))", (("f", (), ("call", "g", (("int", -1), ("int", 2)))),))

    def test_bad_expressions(self):
        for text in BAD_EXPRESSION_TEXTS:
            self.assert_bad(text_of(text))
            for _, outer in wrapped(X, text):
                self.assert_bad(text_of(outer))
        for text in BAD_ALONE_TEXTS:
            self.assert_bad(text_of(text))

    def test_bad_texts(self):
        for text in BAD_TEXTS:
            self.assert_bad(text)

    def test_a_blank_within_a_word(self):
        for word in ("def", "box", "case", "open"):
            at = BOX_TEXT.index(word)
            self.assert_bad(BOX_TEXT[:at + 1] + " " + BOX_TEXT[at + 1:])
            self.assert_bad(BOX_TEXT[:at + 1] + "\n" + BOX_TEXT[at + 1:])
        for text in ("(i f < 1 2 3 4)", "(let y y 1 1)", "- 1", "(if < - 1 2 3 4)", "(case x ((T) 1 2))",
                     "(c ase x ((T) 1))", "(case x ((T a b c) 1 2))", "(del ay)x"):
            self.assert_bad(text_of(text))
        # Here the two words give a program.
        self.assert_read(text_of("(de lay x)"), program_of(("call", "de", (("name", "lay"), X))))

    def test_a_mark_left_out_or_twice(self):
        text = "(def f (x) (let y (+ x 1) (if < x y (T) (case x ((A b) (delay b))))))"
        for at, sign in enumerate(text):
            if sign in "()":
                self.assert_bad(text[:at] + text[at + 1:])
                self.assert_bad(text[:at] + sign + text[at:])

    def test_bad_values(self):
        for thing in ANY_VALUES + (BOX, b"(def f () 1)", [BOX_TEXT], a_desk()):
            if thing != "(def f () 1)":
                self.assertEqual(outcome(read_program, thing), ("raised", "BadText", thing))


class BothWaysTests(unittest.TestCase):

    def test_read_back(self):
        programs = [BOX]
        for e, text in FORMS:
            programs.extend([program_of(outer) for outer, _ in wrapped(e, text)])
        for program in programs:
            self.assertEqual(read_program(program_text(program)), program)

    def test_names_like_the_first_words_of_expressions(self):
        for word in ("int", "name", "call", "make", "op", "branch"):
            program = ((word, (word,), ("call", word, (("name", word), ("call", word, ())))),)
            self.assertEqual(read_program(program_text(program)), program)

    def test_integers(self):
        for n in (0, 9, 10, -10, 10 ** 11, 10 ** 12 - 1, 1 - 10 ** 12, 10 ** 59, 10 ** 60 - 1, 10 ** 60, 10 ** 60 + 7,
                  -10 ** 60, 10 ** 120, 123456789 * 10 ** 100, 7 ** 1000):
            program = program_of(("int", n))
            self.assertEqual(program_text(program), "(def f (x) " + str(n) + ")")
            self.assertEqual(read_program(program_text(program)), program)


if __name__ == "__main__":
    unittest.main()
