"""[6.1] Kinds, [6.2] their worlds, [6.3] plain meaning, [6.4] certificates."""

import unittest

from debtsheld.kinds import is_kind_program, is_kind_world, judge_kind, kind_holds, meanings
from debtsheld.programs import read_program
from debtsheld.worlds import outcomes
from tests.plain import chances, plain_machine, with_much_room
from tests.plain_kinds import KINDS, functions_of, kind_world, plain_meanings
from tests.samples import (
    ANY_VALUES, BOX, DEQUE, HEAP, JOINED, KIND_PROGRAMS, LIST, PILE, TWO, a_desk, outcome, program_of,
)

BAD_KINDS = ("", "Queue", "queues", "queue ", "banker", "stack", None, 1, True, (), ("queue",), ["queue"], {}, {"queue": 1},
             a_desk()) + ANY_VALUES
GOOD = {"queue": TWO, "deque": DEQUE, "list": LIST, "joined": JOINED, "heap": HEAP}
WORLD = (("empty", ()), ("put", (("of", 0), 7)), ("put", (("of", 1), 8)), ("first", (("of", 2),)), ("rest", (("of", 2),)),
         ("first", (("of", 0),)))


def wrong_deeds(program, kind, world):
    """The deeds whose outcome on the plain machine does not fit the plain meaning."""
    machine = []
    with_much_room(lambda: machine.append(plain_machine(program, world)))
    found = []
    for k, (meant, trace) in enumerate(zip(plain_meanings(kind, world), machine[0].traces)):
        fitting = {"version": trace[0][0] == "value", "answer": trace[0] == ("value",) + meant[1:],
                   "stuck": trace[0] == ("stuck",), "none": trace[0] == ("none",)}
        if not fitting[meant[0]]:
            found.append(k)
    return found


class KindTests(unittest.TestCase):

    def test_no_kinds(self):
        for bad in BAD_KINDS:
            for got in (outcome(is_kind_program, bad, TWO), outcome(is_kind_world, bad, WORLD),
                        outcome(meanings, bad, WORLD), outcome(meanings, bad, 1),
                        outcome(is_kind_program, bad, None), outcome(is_kind_world, bad, None),
                        outcome(judge_kind, bad, TWO, WORLD), outcome(judge_kind, bad, 1, 2),
                        outcome(kind_holds, bad, TWO, WORLD, ("right",)), outcome(kind_holds, bad, 1, 2, 3)):
                self.assertEqual(got[:2], ("raised", "BadKind"))
                self.assertIs(got[2], bad)

    def test_kind_programs(self):
        for kind, program in KIND_PROGRAMS + (("queue", PILE),):
            for other in KINDS:
                self.assertIs(is_kind_program(other, program), other == kind)
            self.assertIs(is_kind_program(kind, program + (("more", ("x",), ("name", "x")),)), True)
            self.assertIs(is_kind_program(kind, program[::-1]), True)

    def test_no_kind_programs(self):
        for kind, program in KIND_PROGRAMS:
            names = [f for f, _, _ in functions_of(kind)]
            for at, (f, parameters, body) in enumerate(program):
                without = program[:at] + program[at + 1:]
                wrong = [without, program + (program[at],), list(program), program[:at] + ([f, parameters, body],),
                         without + ((f, parameters, ("name", "nowhere")),), without + ((f, parameters, ("int", True)),)]
                if f in names:
                    wrong.append(without + ((f, parameters + ("more",), body),))
                    wrong.append(without + ((f, parameters[1:], ("int", 1)),) if parameters else without)
                    wrong.append(without + ((f + "2", parameters, body),))
                for thing in wrong:
                    self.assertIs(is_kind_program(kind, thing), False)
                    for got in (outcome(judge_kind, kind, thing, 1), outcome(kind_holds, kind, thing, 1, 1)):
                        self.assertEqual(got[:2], ("raised", "BadProgram"))
                        self.assertIs(got[2], thing)
        for kind in KINDS:
            for thing in ANY_VALUES + (BOX, program_of(("name", "y"))):
                self.assertIs(is_kind_program(kind, thing), False)

    def test_functions_with_any_names_of_parameters(self):
        program = read_program("(def empty () 0) (def put (b a) b) (def first (z) z) (def rest (first) first)")
        self.assertIs(is_kind_program("queue", program), True)
        self.assertIs(is_kind_program("deque", program), False)


class KindWorldTests(unittest.TestCase):

    def assert_kind_world(self, kind, thing, expected):
        self.assertIs(is_kind_world(kind, thing), expected, repr(thing)[:300])
        if not expected:
            program = GOOD[kind]
            for got in (outcome(meanings, kind, thing), outcome(judge_kind, kind, program, thing),
                        outcome(kind_holds, kind, program, thing, ("right",))):
                self.assertEqual(got[:2], ("raised", "BadWorld"))
                self.assertIs(got[2], thing)

    def test_worlds_by_chance(self):
        for kind in KINDS:
            for chance in chances(0, 40):
                world = kind_world(kind, chance, 12)
                for other in KINDS:
                    fitting = all(f in [g for g, _, _ in functions_of(other)] for f, _ in world)
                    self.assert_kind_world(other, world, fitting)
                self.assert_kind_world(kind, list(world), False)

    def test_each_argument_replaced(self):
        others = (None, True, False, "1", "", [1], (1,), (), [], {}, 1.5, ("of",), ("of", 1, 1), ["of", 1], ("off", 1),
                  ("of", True), ("of", False), ("of", "1"), ("of", None), ("of", -1), ("of", 4), ("of", 5), ("of", 10 ** 30),
                  ("of", (1,)), a_desk(), ("cell", 0), ("version", ()))
        for kind in KINDS:
            for f, sorts, _ in functions_of(kind):
                answering = [g for g, _, returned in functions_of(kind) if returned == "n"][0]
                # The deeds 0, 1 and 3 return versions, the deed 2 an integer.
                start = (("empty", ()), ("empty", ()), self.right_deed(kind, answering), ("empty", ()))
                right = self.right_deed(kind, f)
                self.assert_kind_world(kind, start + (right,), True)
                for at, sort in enumerate(sorts):
                    good = [("of", 0), ("of", 1), ("of", 3)] if sort == "v" else [0, -1, 5, 10 ** 12 - 1, -10 ** 12 + 1]
                    for argument in good:
                        self.assert_kind_world(kind, start + (self.replaced(right, at, argument),), True)
                    bad = [0, 1, -1, ("of", 2)] if sort == "v" else [("of", 0), ("of", 2), ("of", 1)]
                    for argument in others + tuple(bad):
                        world = start + (self.replaced(right, at, argument),)
                        self.assert_kind_world(kind, world, False)
                        self.assert_kind_world(kind, world + (("empty", ()),), False)
                for bad in ((f, right[1] + (1,)), (f, right[1] + (("of", 0),)), (f, list(right[1])), [f, right[1]], (f,),
                            (f, right[1], ()), (f + " ", right[1]), (f.upper(), right[1]), ((f,), right[1]), ([f], right[1]),
                            (right[1], f), (None, right[1]), (f, None), (f, 1), (f, {}), f, None, (), [], a_desk()):
                    self.assert_kind_world(kind, start + (bad,), False)
                    self.assert_kind_world(kind, (bad,) + start, False)
                    self.assert_kind_world(kind, start + (bad, ("empty", ())), False)
                if sorts:
                    self.assert_kind_world(kind, start + ((f, right[1][1:]),), False)
                    self.assert_kind_world(kind, start + ((f, ()),), False)

    def test_what_each_function_returns(self):
        for kind in KINDS:
            for f, _, returned in functions_of(kind):
                for g, sorts, _ in functions_of(kind):
                    world = (("empty", ()), self.right_deed(kind, f), self.right_deed(kind, g))
                    for at, sort in enumerate(sorts):
                        changed = world[:2] + (self.replaced(world[2], at, ("of", 1)),)
                        self.assert_kind_world(kind, changed, sort == "v" and returned == "v")

    def right_deed(self, kind, f):
        sorts = [sorts for g, sorts, _ in functions_of(kind) if g == f][0]
        return (f, tuple(("of", 0) if sort == "v" else 1 for sort in sorts))

    def replaced(self, deed, at, argument):
        return (deed[0], deed[1][:at] + (argument,) + deed[1][at + 1:])

    def test_a_bad_deed_that_later_ones_use(self):
        for bad in (None, 5, (), "put", (1, 2), ("no", ()), ("first", 1), ([], ())):
            for world in ((bad, ("first", (("of", 0),))), (("empty", ()), bad, ("put", (("of", 1), 1)))):
                self.assert_kind_world("queue", world, False)

    def test_functions_that_are_none_of_the_kind(self):
        self.assert_kind_world("queue", (("empty", ()), ("check", (("of", 0), ("of", 0)))), False)
        self.assert_kind_world("queue", (("empty", ()), ("cons", (1, ("of", 0)))), False)
        self.assert_kind_world("heap", (("empty", ()), ("first", (("of", 0),))), False)

    def test_any_values(self):
        for kind in KINDS:
            for thing in ANY_VALUES:
                self.assert_kind_world(kind, thing, thing == ())
            self.assertEqual(meanings(kind, ()), ())
            self.assertEqual(judge_kind(kind, GOOD[kind], ()), ("right",))

    def test_a_bool_behind_its_equal(self):
        self.assert_kind_world("queue", (("empty", ()), ("put", (("of", 0), 1))), True)
        self.assert_kind_world("queue", (("empty", ()), ("put", (("of", 0), True))), False)
        self.assert_kind_world("queue", (("empty", ()), ("put", (("of", False), 1))), False)


class MeaningTests(unittest.TestCase):

    def test_each_function(self):
        for kind, world, expected in (
            ("queue", (("empty", ()), ("put", (("of", 0), 7)), ("put", (("of", 1), 8)), ("rest", (("of", 2),)),
                       ("first", (("of", 2),)), ("first", (("of", 3),)), ("rest", (("of", 3),)), ("rest", (("of", 6),)),
                       ("first", (("of", 6),)), ("put", (("of", 7), 1)), ("first", (("of", 7),)), ("put", (("of", 9), 1))),
             (("version", ()), ("version", (7,)), ("version", (7, 8)), ("version", (8,)), ("answer", 7), ("answer", 8),
              ("version", ()), ("stuck",), ("stuck",), ("none",), ("none",), ("none",))),
            ("deque", (("empty", ()), ("front", (1, ("of", 0))), ("front", (2, ("of", 1))), ("back", (("of", 2), 3)),
                       ("first", (("of", 3),)), ("last", (("of", 3),)), ("rest", (("of", 3),)), ("init", (("of", 3),)),
                       ("init", (("of", 0),)), ("last", (("of", 0),)), ("first", (("of", 0),)), ("rest", (("of", 0),)),
                       ("front", (1, ("of", 8)))),
             (("version", ()), ("version", (1,)), ("version", (2, 1)), ("version", (2, 1, 3)), ("answer", 2), ("answer", 3),
              ("version", (1, 3)), ("version", (2, 1)), ("stuck",), ("stuck",), ("stuck",), ("stuck",), ("none",))),
            ("list", (("empty", ()), ("cons", (5, ("of", 0))), ("cons", (6, ("of", 1))), ("head", (("of", 2),)),
                      ("tail", (("of", 2),)), ("look", (("of", 2), 0)), ("look", (("of", 2), 1)), ("look", (("of", 2), 2)),
                      ("look", (("of", 2), -1)), ("set", (("of", 2), 1, 9)), ("set", (("of", 2), 0, 9)),
                      ("set", (("of", 2), 2, 9)), ("set", (("of", 2), -1, 9)), ("head", (("of", 0),)),
                      ("tail", (("of", 0),)), ("look", (("of", 0), 0)), ("set", (("of", 0), 0, 0)),
                      ("cons", (1, ("of", 11)))),
             (("version", ()), ("version", (5,)), ("version", (6, 5)), ("answer", 6), ("version", (5,)), ("answer", 6),
              ("answer", 5), ("stuck",), ("stuck",), ("version", (6, 9)), ("version", (9, 5)), ("stuck",), ("stuck",),
              ("stuck",), ("stuck",), ("stuck",), ("stuck",), ("none",))),
            ("joined", (("empty", ()), ("one", (3,)), ("one", (4,)), ("join", (("of", 1), ("of", 2))),
                        ("join", (("of", 3), ("of", 3))), ("join", (("of", 0), ("of", 0))), ("first", (("of", 4),)),
                        ("rest", (("of", 4),)), ("rest", (("of", 0),)), ("first", (("of", 5),)),
                        ("join", (("of", 4), ("of", 8))), ("join", (("of", 8), ("of", 4)))),
             (("version", ()), ("version", (3,)), ("version", (4,)), ("version", (3, 4)), ("version", (3, 4, 3, 4)),
              ("version", ()), ("answer", 3), ("version", (4, 3, 4)), ("stuck",), ("stuck",), ("none",), ("none",))),
            ("heap", (("empty", ()), ("insert", (("of", 0), 2)), ("insert", (("of", 1), -1)), ("insert", (("of", 2), 2)),
                      ("merge", (("of", 3), ("of", 2))), ("least", (("of", 4),)), ("without", (("of", 4),)),
                      ("least", (("of", 6),)), ("without", (("of", 0),)), ("least", (("of", 0),)),
                      ("insert", (("of", 8), 1)), ("merge", (("of", 1), ("of", 8)))),
             (("version", ()), ("version", (2,)), ("version", (-1, 2)), ("version", (-1, 2, 2)),
              ("version", (-1, -1, 2, 2, 2)), ("answer", -1), ("version", (-1, 2, 2, 2)), ("answer", -1), ("stuck",),
              ("stuck",), ("none",), ("none",))),
        ):
            self.assertEqual(meanings(kind, world), expected, kind)
            self.assertEqual(plain_meanings(kind, world), expected, kind)
            for other, program in KIND_PROGRAMS:
                if other == kind:
                    self.assertEqual(judge_kind(kind, program, world), ("right",))

    def test_heaps_are_sorted_as_numbers(self):
        world = (("empty", ()), ("insert", (("of", 0), 10)), ("insert", (("of", 1), 9)), ("insert", (("of", 2), -100)))
        self.assertEqual(meanings("heap", world)[3], ("version", (-100, 9, 10)))

    def test_against_lists(self):
        for kind in KINDS:
            met = []
            for chance in chances(0, 150):
                world = kind_world(kind, chance, 25)
                expected = plain_meanings(kind, world)
                self.assertEqual(repr(meanings(kind, world)), repr(expected))
                met.extend(meaning[0] for meaning in expected)
            for word in ("version", "answer", "stuck", "none"):
                self.assertGreater(met.count(word), 10, (kind, word))


class CertificateTests(unittest.TestCase):

    def assert_judged(self, kind, program, world):
        wrong = wrong_deeds(program, kind, world)
        got = judge_kind(kind, program, world)
        if wrong:
            self.assertEqual(got[0], "wrong")
            self.assertIn(got[1], wrong)
            self.assertEqual(len(got), 2)
        else:
            self.assertEqual(got, ("right",))
        self.assertIs(kind_holds(kind, program, world, got), True)
        self.assertIs(kind_holds(kind, program, world, ("right",)), not wrong)
        for k in range(-1, len(world) + 1):
            self.assertIs(kind_holds(kind, program, world, ("wrong", k)), k in wrong)
        return len(wrong)

    def test_right_programs(self):
        for kind, program in KIND_PROGRAMS:
            for chance in chances(0, 40):
                world = kind_world(kind, chance, 16, 12)
                self.assertEqual(self.assert_judged(kind, program, world), 0)

    def test_a_pile_is_no_queue(self):
        self.assertEqual(judge_kind("queue", PILE, WORLD), ("wrong", 3))
        self.assertIs(kind_holds("queue", PILE, WORLD, ("wrong", 3)), True)
        for thing in (("right",), ("wrong", 5), ("wrong", 0), ("wrong", 6), ("wrong", -3), ("wrong", -1), ("wrong",),
                      ("wrong", "3"), ("wrong", 3, 3), ["wrong", 3], ("Wrong", 3), ("wrong", (3,)), ("wrong", [3]),
                      ("wrong", None), "wrong", ("wrong", {}), (("wrong", 3),), ("wrong", True),
                      ("wrong", False), (3, "wrong"), ([], 3), ({}, 3), 3, ("right", 3), ("right", ()), ("wrong", a_desk())) + ANY_VALUES:
            self.assertIs(kind_holds("queue", PILE, WORLD, thing), False, thing)
        for thing in (("right", ()), "right", ["right"], ("right", 1), ("right", "right"), ("Right",), (("right",),),
                      {"right": 1}, ("wrong", 0), ("wrong", 5), (["right"],), (True,), True) + ANY_VALUES:
            self.assertIs(kind_holds("queue", TWO, WORLD, thing), False, thing)
        self.assertIs(kind_holds("queue", TWO, WORLD, ("right",)), True)

    def test_a_bool_for_the_position(self):
        program = read_program("(def empty () 0) (def put (q x) q) (def first (q) 5) (def rest (q) q)")
        world = (("empty", ()), ("first", (("of", 0),)), ("put", (("of", 0), 5)), ("first", (("of", 2),)))
        self.assertEqual(judge_kind("queue", program, world), ("wrong", 1))
        self.assertIs(kind_holds("queue", program, world, ("wrong", 1)), True)
        self.assertIs(kind_holds("queue", program, world, ("wrong", True)), False)
        self.assertIs(kind_holds("queue", program, world, ("wrong", 3)), False)

    def test_outcomes_that_fit_and_do_not(self):
        for body, fitting in (("7", True), ("8", False), ("(T)", False), ("(delay 7)", False), ("(force 7)", False),
                              ("(first q)", False), ("(- 7 0)", True)):
            program = read_program("(def empty () 0) (def put (q x) x) (def rest (q) q) (def first (q) " + body + ")")
            world = WORLD[:4]
            self.assertEqual(judge_kind("queue", program, world), ("right",) if fitting else ("wrong", 3), body)
        for body, wrong in (("7", ()), ("(T)", ()), ("(delay (force 1))", ()), ("(force 7)", (0, 1, 2)),
                            ("(empty)", (0, 1, 2))):
            program = read_program("(def empty () " + body + ") (def put (q x) 1) (def first (q) 1) (def rest (q) 1)")
            self.assertEqual(wrong_deeds(program, "queue", WORLD[:3]), list(wrong))
            self.assert_judged("queue", program, WORLD[:3])
        # what shall be stuck, but is long or has a value, and what uses it
        world = (("empty", ()), ("rest", (("of", 0),)), ("put", (("of", 1), 2)))
        for body, wrong in (("(force 1)", ()), ("(rest q)", (1,)), ("q", (1, 2)), ("1", (1, 2))):
            program = read_program("(def empty () 0) (def put (q x) 1) (def first (q) 1) (def rest (q) " + body + ")")
            self.assertEqual(wrong_deeds(program, "queue", world), list(wrong))
            self.assert_judged("queue", program, world)

    def test_spoiled_programs(self):
        spoilers = (("int", 7), ("delay", ("int", 1)), ("force", ("int", 1)), ("make", "Zz", ()))
        for kind, program in KIND_PROGRAMS:
            many = 0
            for chance in chances(0, 40):
                f, parameters, body = chance.choice(program)
                more = tuple(("name", x) for x in parameters) + (("call", f, tuple(("name", x) for x in parameters)),)
                spoiled = tuple((g, names, chance.choice(spoilers + more) if g == f else old) for g, names, old in program)
                many += self.assert_judged(kind, spoiled, kind_world(kind, chance, 10, 12)) > 0
            self.assertGreater(many, 10, kind)

    def test_errors_in_their_order(self):
        for function, more in ((judge_kind, ()), (kind_holds, ("no",))):
            for kind in KINDS:
                for bad in ANY_VALUES + (BOX, program_of(("name", "y"))):
                    got = outcome(function, kind, bad, "no", *more)
                    self.assertEqual(got[:2], ("raised", "BadProgram"))
                    self.assertIs(got[2], bad)
                for bad in ANY_VALUES:
                    if bad != ():
                        got = outcome(function, kind, GOOD[kind], bad, *more)
                        self.assertEqual(got[:2], ("raised", "BadWorld"))
                        self.assertIs(got[2], bad)

    def test_a_world_of_the_program_that_is_none_of_the_kind(self):
        world = (("empty", ()), ("rev", (("of", 0), 1)))
        self.assertEqual(len(outcomes(TWO, world)), 2)
        self.assertEqual(outcome(judge_kind, "queue", TWO, world), ("raised", "BadWorld", world))
        world = (("empty", ()), ("put", (("of", 0), ("of", 0))))
        self.assertEqual(outcome(judge_kind, "queue", TWO, world), ("raised", "BadWorld", world))


if __name__ == "__main__":
    unittest.main()
