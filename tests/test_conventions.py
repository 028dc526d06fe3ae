"""[0.3] What is said of all functions, and the interface as it is listed."""

import inspect
import itertools
import unittest

from debtsheld import books, checker, kinds, made, programs, shelf, worlds
from debtsheld.checker import fault, is_checked
from debtsheld.programs import is_program, program_text, read_program
from tests.samples import ANY_VALUES, BOX, BOX_TEXT, STREAMS, TWO, a_desk, copied, frozen, outcome, program_of

# Each function with its parameter, an argument that it answers, and the error that other values give.
FUNCTIONS = (
    (is_program, "thing", BOX, None),
    (program_text, "program", BOX, "BadProgram"),
    (read_program, "text", BOX_TEXT, "BadText"),
    (fault, "program", BOX, "BadProgram"),
    (is_checked, "program", BOX, "BadProgram"),
)


class ConventionTests(unittest.TestCase):

    def test_functions_stand_where_they_are_listed(self):
        for module, names in ((programs, ("is_program", "program_text", "read_program")),
                              (checker, ("fault", "is_checked"))):
            for name in names:
                self.assertEqual(getattr(module, name).__module__, module.__name__)

    def test_parameters(self):
        for function, parameter, _, _ in FUNCTIONS:
            found = inspect.signature(function).parameters
            self.assertEqual(list(found), [parameter])
            self.assertEqual(found[parameter].kind, inspect.Parameter.POSITIONAL_OR_KEYWORD)
            self.assertIs(found[parameter].default, inspect.Parameter.empty)

    def test_by_position_and_by_name(self):
        for function, parameter, argument, _ in FUNCTIONS:
            self.assertEqual(function(argument), function(**{parameter: argument}))
            for value in ANY_VALUES:
                self.assertEqual(outcome(function, value), outcome(function, **{parameter: value}))

    def test_the_thing_is_the_whole_argument(self):
        for function, parameter, _, error in FUNCTIONS:
            for value in ANY_VALUES:
                if error is None or (error == "BadText" and value == "(def f () 1)"):
                    continue
                for got in (outcome(function, value), outcome(function, **{parameter: value})):
                    self.assertEqual(got[:2], ("raised", error))
                    self.assertIs(got[2], value)

    def test_arguments_do_not_change(self):
        bad = [["f", ["x"], ["case", ["name", "x"], [["T", ["y"], {"int": [1]}]]]]]
        for function, _, argument, _ in FUNCTIONS:
            for value in (argument, bad, (bad,), (("f", ("x",), bad),), (("f", [], ["int", 1]),)):
                before = frozen(copied(value))
                outcome(function, value)
                self.assertEqual(frozen(value), before)

    def test_the_same_call_again(self):
        values = (BOX, BOX_TEXT, program_of(("name", "y")), "(def f () 01)", [1], None)
        for function, _, _, _ in FUNCTIONS:
            first = [frozen(outcome(function, value)) for value in values]
            second = [frozen(outcome(function, copied(value))) for value in values]
            self.assertEqual(first, second)

    def test_results_consist_of_what_is_allowed(self):
        for function, _, argument, _ in FUNCTIONS:
            self.assertTrue(consists(function(argument)), function)
        self.assertTrue(consists(fault(program_of(("name", "y")))))
        self.assertTrue(consists(read_program("(def f (x) (if < -1 x (T) (case (f x) ((T a) (let b a (* a b))))))")))

    def test_true_and_false_themselves(self):
        for value in ANY_VALUES + (BOX,):
            self.assertIs(type(is_program(value)), bool)
        self.assertIs(is_checked(BOX), True)
        self.assertIs(is_checked(program_of(("name", "y"))), False)

    def test_several_errors_do_not_mix(self):
        # A program with a fault is still a program: text and fault are given, and no error.
        program = program_of(("name", "y"))
        self.assertEqual(program_text(program), "(def f (x) y)")
        self.assertEqual(fault(program), ("unbound", "f", "y"))


PROGRAM = ("program", STREAMS, "BadProgram")
WORLD = ("world", (("upto", (2,)), ("total", (("of", 0),)), ("tail", (("of", 0),)), ("tail", (5,))), "BadWorld")
KIND = ("kind", "queue", "BadKind")
QUEUE = ("program", TWO, "BadProgram")
PUTS = ("world", (("empty", ()), ("put", (("of", 0), 7)), ("first", (("of", 1),)), ("rest", (("of", 0),))), "BadWorld")
C = ("c", 9, "BadNumber")
NAME = ("name", "eager", "BadName")

# Each function with its parameters, for each one an argument that it answers and the error that other values give.
INTERFACE = (
    (worlds, "is_world", (PROGRAM, ("thing", WORLD[1], None))),
    (worlds, "traces", (PROGRAM, WORLD)),
    (worlds, "outcomes", (PROGRAM, WORLD)),
    (worlds, "steps", (PROGRAM, WORLD)),
    (worlds, "line", (PROGRAM, WORLD, ("k", 2, "BadNumber"))),
    (worlds, "is_part", (PROGRAM, WORLD, ("thing", (0, 2), None))),
    (books, "roots", (PROGRAM, WORLD)),
    (books, "payers", (PROGRAM, WORLD)),
    (books, "judge_charge", (PROGRAM, WORLD, C)),
    (books, "charge_holds", (PROGRAM, WORLD, C, ("thing", ("own", 1), None))),
    (books, "least_charge", (PROGRAM, WORLD)),
    (kinds, "is_kind_program", (KIND, ("thing", TWO, None))),
    (kinds, "is_kind_world", (KIND, ("thing", PUTS[1], None))),
    (kinds, "meanings", (KIND, PUTS)),
    (kinds, "judge_kind", (KIND, QUEUE, PUTS)),
    (kinds, "kind_holds", (KIND, QUEUE, PUTS, ("thing", ("right",), None))),
    (shelf, "shelf", (NAME,)),
    (shelf, "kind_of", (NAME,)),
    (shelf, "promise", (NAME,)),
    (shelf, "names", ()),
    (shelf, "keeps", (KIND, QUEUE, PUTS, ("promise", ("each", 24), "BadPromise"))),
    (made, "slow_world", (("n", 2, "BadNumber"),)),
    (made, "branched", (KIND, PUTS, ("k", 3, "BadNumber"), ("m", 2, "BadNumber"))),
)
# The functions with a parameter for any value.
ASKING = tuple(row for row in INTERFACE if row[2] and row[2][-1][0] == "thing")
# What is a position of a deed there, by the function.
POSITIONS = {"line": (0, 1, 2, 3), "branched": (0, 1, 3)}


def is_right(name, parameter, value):
    """Whether one of ANY_VALUES is of the kind that is asked for."""
    if parameter == "world":
        return value == ()
    if type(value) is not int or parameter not in ("c", "k", "m", "n"):
        return False
    return value in POSITIONS[name] if parameter == "k" else value >= (1 if parameter == "n" else 0)


class InterfaceTests(unittest.TestCase):

    def called(self, module, name, arguments):
        return outcome(getattr(module, name), *arguments)

    def test_functions_stand_where_they_are_listed(self):
        for module, name, listed in INTERFACE:
            function = getattr(module, name)
            self.assertEqual(function.__module__, module.__name__)
            found = inspect.signature(function).parameters
            self.assertEqual(list(found), [parameter for parameter, _, _ in listed])
            for parameter in found.values():
                self.assertEqual(parameter.kind, inspect.Parameter.POSITIONAL_OR_KEYWORD)
                self.assertIs(parameter.default, inspect.Parameter.empty)

    def test_by_position_and_by_name(self):
        for module, name, listed in INTERFACE:
            arguments = [good for _, good, _ in listed]
            got = self.called(module, name, arguments)
            self.assertEqual(got[0], "returned")
            named = {parameter: good for parameter, good, _ in listed}
            self.assertEqual(outcome(getattr(module, name), **named), got)
            named = dict(reversed(list(named.items())))
            self.assertEqual(outcome(getattr(module, name), **named), got)

    def test_each_error_with_its_thing(self):
        for module, name, listed in INTERFACE:
            for at, (parameter, _, error) in enumerate(listed):
                for value in ANY_VALUES:
                    if error is None or is_right(name, parameter, value):
                        continue
                    arguments = [good for _, good, _ in listed]
                    arguments[at] = value
                    got = self.called(module, name, arguments)
                    self.assertEqual(got[:2], ("raised", error), (name, parameter))
                    self.assertIs(got[2], value)

    def test_errors_in_their_order(self):
        faulty = program_of(("name", "y"))
        for module, name, listed in INTERFACE:
            ways = []
            for parameter, good, error in listed:
                ways.append([(good, None), (["wrong"], error)])
                if parameter == "program":
                    ways[-1].append((faulty, "BadChecked" if module not in (kinds, shelf) else error))
                if parameter in ("c", "k", "m", "n"):
                    ways[-1].extend([(True, error), (-1, error)])
            for way in itertools.product(*ways):
                arguments = [argument for argument, _ in way]
                raised = [(error, argument) for argument, error in way if error is not None]
                got = self.called(module, name, arguments)
                if raised:
                    self.assertEqual(got[:2], ("raised", raised[0][0]))
                    self.assertIs(got[2], raised[0][1])
                else:
                    self.assertEqual(got[0], "returned")

    def test_functions_that_say_whether(self):
        others = ANY_VALUES + (WORLD[1], PUTS[1], TWO, STREAMS, list(TWO), ("right",), ("wrong", 0), ("wrong", True),
                               ("own", 0), ("lot", (0,)), ("book", ((0, 0, 1),)), ("book", ((0, 0, True),)), ("book", []),
                               (0, True), (0, 1), (a_desk(), 1), ("own", a_desk()), {"own": 0})
        self.assertEqual([name for _, name, _ in ASKING],
                         [name for _, name, _ in INTERFACE if name.startswith("is_") or name.endswith("_holds")])
        for module, name, listed in ASKING:
            self.assertIs(self.called(module, name, [good for _, good, _ in listed])[1], True)
            for value in others:
                for got in (self.called(module, name, [good for _, good, _ in listed[:-1]] + [value]),):
                    self.assertEqual(got[0], "returned", (name, value))
                    self.assertIs(type(got[1]), bool)

    def test_arguments_do_not_change_and_results_are_equal_again(self):
        for module, name, listed in INTERFACE:
            goods = [good for _, good, _ in listed]
            wrongs = [goods[:at] + [["no", [1]]] + goods[at + 1:] for at in range(len(goods))]
            for arguments in [goods] + wrongs:
                before = frozen(arguments)
                first = frozen(self.called(module, name, arguments))
                self.assertEqual(frozen(arguments), before)
                self.called(module, name, [list(STREAMS)] * len(arguments))
                self.called(module, name, [a_desk()] * len(arguments))
                self.assertEqual(frozen(self.called(module, name, copied(arguments))), first)

    def test_results_consist_of_what_is_allowed(self):
        for module, name, listed in INTERFACE:
            self.assertTrue(consists(self.called(module, name, [good for _, good, _ in listed])[1]), name)

    def test_what_is_returned_can_be_passed(self):
        for module, name, listed in INTERFACE:
            returned = self.called(module, name, [good for _, good, _ in listed])[1]
            for other_module, other, other_listed in ASKING:
                for thing in (returned, (returned,), [returned], returned[:1] if isinstance(returned, tuple) else 1):
                    got = self.called(other_module, other, [good for _, good, _ in other_listed[:-1]] + [thing])
                    self.assertIs(type(got[1]), bool)


def consists(value):
    if isinstance(value, tuple):
        return type(value) is tuple and all(consists(part) for part in value)
    return value is None or type(value) in (int, str, bool)


if __name__ == "__main__":
    unittest.main()
