"""[0.3] What is said of all functions, and the interface as it is listed."""

import inspect
import unittest

from debtsheld import checker, programs
from debtsheld.checker import fault, is_checked
from debtsheld.programs import is_program, program_text, read_program
from tests.samples import ANY_VALUES, BOX, BOX_TEXT, copied, frozen, outcome, program_of

# Each function with its parameter, an argument that it answers, and the error that other values give.
FUNCTIONS = (
    (is_program, "thing", BOX, None),
    (program_text, "program", BOX, "BadProgram"),
    (read_program, "text", BOX_TEXT, "BadText"),
    (fault, "program", BOX, "BadProgram"),
    (is_checked, "program", BOX, "BadProgram"),
)


class ConventionTests(unittest.TestCase):

    def test_functions_stand_where_they_are_listed(self):
        for module, names in ((programs, ("is_program", "program_text", "read_program")),
                              (checker, ("fault", "is_checked"))):
            for name in names:
                self.assertEqual(getattr(module, name).__module__, module.__name__)

    def test_parameters(self):
        for function, parameter, _, _ in FUNCTIONS:
            found = inspect.signature(function).parameters
            self.assertEqual(list(found), [parameter])
            self.assertEqual(found[parameter].kind, inspect.Parameter.POSITIONAL_OR_KEYWORD)
            self.assertIs(found[parameter].default, inspect.Parameter.empty)

    def test_by_position_and_by_name(self):
        for function, parameter, argument, _ in FUNCTIONS:
            self.assertEqual(function(argument), function(**{parameter: argument}))
            for value in ANY_VALUES:
                self.assertEqual(outcome(function, value), outcome(function, **{parameter: value}))

    def test_the_thing_is_the_whole_argument(self):
        for function, parameter, _, error in FUNCTIONS:
            for value in ANY_VALUES:
                if error is None or (error == "BadText" and value == "(def f () 1)"):
                    continue
                for got in (outcome(function, value), outcome(function, **{parameter: value})):
                    self.assertEqual(got[:2], ("raised", error))
                    self.assertIs(got[2], value)

    def test_arguments_do_not_change(self):
        bad = [["f", ["x"], ["case", ["name", "x"], [["T", ["y"], {"int": [1]}]]]]]
        for function, _, argument, _ in FUNCTIONS:
            for value in (argument, bad, (bad,), (("f", ("x",), bad),), (("f", [], ["int", 1]),)):
                before = frozen(copied(value))
                outcome(function, value)
                self.assertEqual(frozen(value), before)

    def test_the_same_call_again(self):
        values = (BOX, BOX_TEXT, program_of(("name", "y")), "(def f () 01)", [1], None)
        for function, _, _, _ in FUNCTIONS:
            first = [frozen(outcome(function, value)) for value in values]
            second = [frozen(outcome(function, copied(value))) for value in values]
            self.assertEqual(first, second)

    def test_results_consist_of_what_is_allowed(self):
        for function, _, argument, _ in FUNCTIONS:
            self.assertTrue(consists(function(argument)), function)
        self.assertTrue(consists(fault(program_of(("name", "y")))))
        self.assertTrue(consists(read_program("(def f (x) (if < -1 x (T) (case (f x) ((T a) (let b a (* a b))))))")))

    def test_true_and_false_themselves(self):
        for value in ANY_VALUES + (BOX,):
            self.assertIs(type(is_program(value)), bool)
        self.assertIs(is_checked(BOX), True)
        self.assertIs(is_checked(program_of(("name", "y"))), False)

    def test_several_errors_do_not_mix(self):
        # A program with a fault is still a program: text and fault are given, and no error.
        program = program_of(("name", "y"))
        self.assertEqual(program_text(program), "(def f (x) y)")
        self.assertEqual(fault(program), ("unbound", "f", "y"))


def consists(value):
    if isinstance(value, tuple):
        return type(value) is tuple and all(consists(part) for part in value)
    return value is None or type(value) in (int, str, bool)


if __name__ == "__main__":
    unittest.main()
