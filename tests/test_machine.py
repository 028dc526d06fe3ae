"""[3.1] Values and [3.2] evaluation: the value and the steps of each form, what is stuck, and what is long."""

import unittest

from debtsheld.programs import read_program
from debtsheld.worlds import outcomes, steps, traces
from tests.plain import chances, plain_machine, some_program, some_world, with_much_room
from tests.samples import BOXES, STREAMS, streams_world

CELL = ("cell", 0)

# A body of the function f with the parameters x and y, the arguments, the outcome and the steps.
EVALUATED = (
    # one step for each expression
    ("7", (0, 0), ("value", 7), 1),
    ("-7", (0, 0), ("value", -7), 1),
    ("x", (5, 6), ("value", 5), 1),
    ("y", (5, 6), ("value", 6), 1),
    ("(g)", (0, 0), ("value", 9), 2),
    ("(h x y)", (5, 6), ("value", 1), 6),
    ("(h y x)", (5, 6), ("value", -1), 6),
    ("(h (g) (h x y))", (5, 6), ("value", -8), 12),
    ("(T)", (0, 0), ("value", ("T", ())), 1),
    ("(U x 3)", (5, 6), ("value", ("U", (5, 3))), 3),
    ("(U y (U x (T)))", (5, 6), ("value", ("U", (6, ("U", (5, ("T", ())))))), 5),
    ("(case (T) ((T) x))", (5, 6), ("value", 5), 3),
    ("(case (U x y) ((T) 1) ((U a b) b))", (5, 6), ("value", 6), 5),
    ("(case (U x y) ((U a b) a) ((T) 1))", (5, 6), ("value", 5), 5),
    ("(let a x a)", (5, 6), ("value", 5), 3),
    ("(let a (+ x y) (* a a))", (5, 6), ("value", 121), 7),
    ("(if < x y 1 (g))", (5, 6), ("value", 1), 4),
    ("(if < x y 1 (g))", (6, 6), ("value", 9), 5),
    ("(if < x y (g) 1)", (7, 6), ("value", 1), 4),
    ("(if = x y 1 (g))", (6, 6), ("value", 1), 4),
    ("(if = x y 1 (g))", (5, 6), ("value", 9), 5),
    ("(if = x y 1 2)", (7, 6), ("value", 2), 4),
    ("(+ x y)", (5, 6), ("value", 11), 3),
    ("(- x y)", (5, 6), ("value", -1), 3),
    ("(* x y)", (5, -6), ("value", -30), 3),
    ("(+ (* x x) (- y x))", (5, 6), ("value", 26), 7),
    ("(delay x)", (5, 6), ("value", CELL), 1),
    ("(delay (+ 1 (T)))", (5, 6), ("value", CELL), 1),
    ("(force (delay x))", (5, 6), ("value", 5), 3),
    ("(force (delay (+ x y)))", (5, 6), ("value", 11), 5),
    ("(force (force (delay (delay x))))", (5, 6), ("value", 5), 5),
    ("(U (delay 1) (delay 2))", (5, 6), ("value", ("U", (CELL, ("cell", 1)))), 3),
    # what is not needed is not evaluated
    ("(if < 1 2 x (+ 1 (T)))", (5, 6), ("value", 5), 4),
    ("(if < 2 1 (+ 1 (T)) x)", (5, 6), ("value", 5), 4),
    ("(case (T) ((T) x) ((U a b) (+ 1 (T))))", (5, 6), ("value", 5), 3),
    # what is bound, and what hides it
    ("(let x y x)", (5, 6), ("value", 6), 3),
    ("(let x (+ x 1) (+ x y))", (5, 6), ("value", 12), 7),
    ("(+ (let x y x) x)", (5, 6), ("value", 11), 5),
    ("(+ x (let x y x))", (5, 6), ("value", 11), 5),
    ("(case (U 1 2) ((U x y) (- x y)))", (5, 6), ("value", -1), 7),
    ("(case (U x y) ((U y x) (- x y)))", (5, 6), ("value", 1), 7),
    ("(case (U 1 2) ((U x a) (+ x y)))", (5, 6), ("value", 7), 7),
    ("(let a 1 (let a 2 (let a (+ a 3) a)))", (5, 6), ("value", 5), 9),
    ("(case (U 1 2) ((U a b) (case (U b a) ((U a b) (- a b)))))", (5, 6), ("value", 1), 11),
    # a function sees its own parameters only, and a cell what was bound where it was made
    ("(let a 1 (h a (k a y)))", (5, 6), ("value", 6), 13),
    ("(let c (delay x) (let x y (force c)))", (5, 6), ("value", 5), 7),
    ("(let c (delay x) (case (U y 1) ((U x a) (force c))))", (5, 6), ("value", 5), 9),
    ("(let a 1 (let c (delay (+ a x)) (let a 2 (+ a (force c)))))", (5, 6), ("value", 8), 13),
    ("(let x (delay x) (force x))", (5, 6), ("value", 5), 5),
    # a cell is evaluated once
    ("(let c (delay (+ x y)) (+ (force c) (force c)))", (5, 6), ("value", 22), 10),
    ("(let c (delay (+ x y)) (U c (force c)))", (5, 6), ("value", ("U", (CELL, 11))), 9),
    ("(let c (delay (delay x)) (- (force (force c)) (force (force c))))", (5, 6), ("value", 0), 11),
)

# Bodies that get stuck, the steps that are made before, and of these the ones of cells that were worked out.
STUCK = (
    ("(case x ((T) 1))", 2, ()),
    ("(case (U 1 2) ((T) 1))", 4, ()),
    ("(case (T) ((U a b) 1) ((V) 2))", 2, ()),
    ("(case (delay 1) ((T) 1) ((V) 1))", 2, ()),
    ("(if < (T) x (g) (g))", 3, ()),
    ("(if < x (T) (g) (g))", 3, ()),
    ("(if = (T) (T) (g) (g))", 3, ()),
    ("(if = (delay 1) 1 (g) (g))", 3, ()),
    ("(if = 1 (delay 1) (g) (g))", 3, ()),
    ("(+ (T) 1)", 3, ()),
    ("(- 1 (T))", 3, ()),
    ("(* (delay 2) 0)", 3, ()),
    ("(* 0 (U 1 2))", 5, ()),
    ("(+ (T) (g))", 4, ()),
    ("(+ (+ 1 (T)) (g))", 4, ()),
    ("(+ (g) (force 1))", 5, ()),
    ("(force x)", 2, ()),
    ("(force (T))", 2, ()),
    ("(force (U (delay 1) (delay 2)))", 4, ()),
    ("(force (force (delay 1)))", 4, ((0, 1),)),
    ("(T2 1 (force 2) (g))", 4, ()),
    ("(h (force 1) (g))", 3, ()),
    ("(let a (force 1) (g))", 3, ()),
    ("(case (force 1) ((T) (g)))", 3, ()),
    ("(if < (force 1) (g) (g) (g))", 3, ()),
    ("(k (g) (T))", 7, ()),
    # within cells: a cell that was not worked out has no work, so its steps are own ones
    ("(force (delay (+ 1 (T))))", 5, ()),
    ("(U (force (delay 4)) (force (delay (+ 1 (T)))))", 9, ((0, 1),)),
    ("(force (delay (+ (force (delay x)) (T))))", 7, ((1, 1),)),
    ("(force (delay (+ 1 (force (delay (- 1 (T)))))))", 9, ()),
)


def program_with(body):
    return read_program("""
        (def f (x y) """ + body + """)
        (def g () 9)
        (def h (a b) (- b a))
        (def k (x b) (+ x b))
        (def v () (+ (case (V) ((V) 1)) (case (T2 1 2 3) ((T2 a b c) (case (U 1 2) ((U a b) (case (T) ((T) 1))))))))
        """)


class EvaluationTests(unittest.TestCase):

    def test_values_and_steps(self):
        for body, arguments, expected, many in EVALUATED:
            program = program_with(body)
            world = (("f", arguments),)
            self.assertEqual(repr(outcomes(program, world)), repr((expected,)), body)
            self.assertEqual(steps(program, world), (many,), body)

    def test_stuck(self):
        for body, many, works in STUCK:
            program = program_with(body)
            for world in ((("f", (5, 6)),), (("f", (5, 6)), ("g", ()))):
                outcome, own, worked, _ = traces(program, world)[0]
                self.assertEqual(outcome, ("stuck",), body)
                self.assertEqual(worked, works, body)
                self.assertEqual(own + sum(work for _, work in worked), many, body)

    def test_an_integer_of_200_digits(self):
        n = 10 ** 199 + 1
        program = read_program("(def square (x) (* x x)) (def less (x y) (if < x y 1 0)) (def same (x y) (if = x y 1 0))")
        world = [("square", (10 ** 12 - 1,))]
        world += [("square", (("of", k),)) for k in range(3)]
        expected = [(10 ** 12 - 1) ** (2 ** k) for k in range(1, 5)]
        self.assertEqual(outcomes(program, tuple(world)), tuple(("value", m) for m in expected))
        self.assertLess(expected[-1], n)
        world += [("less", (("of", 2), ("of", 3))), ("less", (("of", 3), ("of", 3))), ("same", (("of", 3), ("of", 3)))]
        self.assertEqual(outcomes(program, tuple(world))[4:], (("value", 1), ("value", 0), ("value", 1)))

    def test_only_the_first_branch_of_a_tag_counts_not_its_place(self):
        program = read_program("(def f (x) (case x ((A) 1) ((B y) y) ((C y z) z))) (def a () (A)) (def b () (B 7)) "
                               "(def c () (C 8 9)) (def d () (D))")
        world = (("a", ()), ("b", ()), ("c", ()), ("d", ())) + tuple(("f", (("of", k),)) for k in range(4))
        self.assertEqual(outcomes(program, world)[4:], (("value", 1), ("value", 7), ("value", 9), ("stuck",)))
        self.assertEqual(steps(program, world)[4:], (3, 3, 3, 2))


class CellTests(unittest.TestCase):

    def test_cells_are_numbered_as_they_are_made(self):
        program = read_program("(def three (x) (P (delay x) (Q (delay (delay x))) (delay x))) "
                               "(def second (p) (case p ((P a b c) (case b ((Q d) (force d))))))")
        world = (("three", (1,)), ("three", (2,)), ("second", (("of", 0),)), ("three", (3,)), ("second", (("of", 0),)))
        told = traces(program, world)
        self.assertEqual([trace[3] for trace in told], [(0, 1, 2), (3, 4, 5), (6,), (7, 8, 9), ()])
        self.assertEqual(told[0][0], ("value", ("P", (("cell", 0), ("Q", (("cell", 1),)), ("cell", 2)))))
        self.assertEqual([trace[0] for trace in told[2::2]], [("value", ("cell", 6))] * 2)

    def test_arguments_are_evaluated_in_their_order(self):
        program = read_program("(def f () (P (delay 1) (force (delay 2)) (delay 3))) (def g () (h (delay 1) (delay 2))) "
                               "(def h (a b) (Q b a)) (def k () (+ (force (delay 1)) (force (delay 2)))) "
                               "(def m () (if < (force (delay 1)) (force (delay 2)) (delay 3) (delay 4)))")
        told = traces(program, (("f", ()), ("g", ()), ("k", ()), ("m", ())))
        self.assertEqual(told[0], (("value", ("P", (("cell", 0), 2, ("cell", 2)))), 5, ((1, 1),), (0, 1, 2)))
        self.assertEqual(told[1], (("value", ("Q", (("cell", 4), ("cell", 3)))), 6, (), (3, 4)))
        self.assertEqual(told[2], (("value", 3), 5, ((5, 1), (6, 1)), (5, 6)))
        self.assertEqual(told[3], (("value", ("cell", 9)), 6, ((7, 1), (8, 1)), (7, 8, 9)))

    def test_a_cell_within_a_cell(self):
        program = read_program("(def one (x) (delay (+ x 1))) (def two (c) (delay (* 2 (force c)))) "
                               "(def ask (c) (force c))")
        world = (("one", (4,)), ("two", (("of", 0),)), ("two", (("of", 1),)), ("ask", (("of", 2),)),
                 ("ask", (("of", 1),)), ("ask", (("of", 2),)))
        told = traces(program, world)
        # Finished first is the innermost one; each has its own steps alone.
        self.assertEqual(told[3], (("value", 20), 2, ((0, 3), (1, 4), (2, 4)), ()))
        self.assertEqual(told[4:], ((("value", 10), 2, (), ()), (("value", 20), 2, (), ())))
        self.assertEqual(steps(program, world), (1, 1, 1, 13, 2, 2))

    def test_a_cell_that_gets_stuck_stays_delayed(self):
        program = read_program("(def one (x) (delay (+ x 1))) (def bad (c) (delay (+ (force c) (T)))) "
                               "(def ask (c) (force c)) (def over (c) (delay (force c)))")
        world = (("one", (4,)), ("bad", (("of", 0),)), ("over", (("of", 1),)), ("ask", (("of", 2),)),
                 ("ask", (("of", 2),)), ("ask", (("of", 1),)), ("ask", (("of", 0),)))
        told = traces(program, world)
        # The first time the cell 0 is worked out within the cell 1, and it stays so; 1 and 2 are begun again and again.
        self.assertEqual(told[3], (("stuck",), 2 + 2 + 4, ((0, 3),), ()))
        self.assertEqual(told[4], (("stuck",), 2 + 2 + 4, (), ()))
        self.assertEqual(told[5], (("stuck",), 2 + 4, (), ()))
        self.assertEqual(told[6], (("value", 5), 2, (), ()))

    def test_a_stuck_cell_makes_new_cells_each_time(self):
        program = read_program("(def bad () (delay (P (delay 1) (force 2) (delay 3)))) (def ask (c) (force c))")
        world = (("bad", ()), ("ask", (("of", 0),)), ("ask", (("of", 0),)), ("bad", ()))
        self.assertEqual(traces(program, world)[1:], ((("stuck",), 6, (), (1,)), (("stuck",), 6, (), (2,)),
                                                      (("value", ("cell", 3)), 1, (), (3,))))

    def test_the_value_of_a_cell_is_a_cell(self):
        world = (("box", (5,)), ("nest", (("of", 0),)), ("ask", (("of", 1),)), ("ask", (("of", 1),)),
                 ("ask", (("of", 2),)), ("ask", (("of", 4),)))
        self.assertEqual(outcomes(BOXES, world), (("value", ("cell", 0)), ("value", ("cell", 1)), ("value", ("cell", 2)),
                                                  ("value", ("cell", 2)), ("value", 5), ("stuck",)))


# A row of calls with 7 steps for each one, a pad of any number of steps, and what uses them.
BURN = "(def burn (n) (if = n 0 0 (burn (- n 1))))\n"


def program_of_steps(many, cell):
    """A program whose function f has that many steps in all, part of them in a cell if cell is True."""
    rest = many - (7 * 700 + 4)
    body = "(burn 700)"
    if cell:
        body = "(force (delay (burn 700)))"
        rest -= 2
    # (let a (T 1 .. 1) body): the let, the made value with its parts, the call and its argument
    pad = rest - 4
    return read_program(BURN + "(def f () (let a (T" + " 1" * pad + ") " + body + "))\n(def ask (c) (force c))\n"
                        "(def g (x) (+ x 1))")


class LongTests(unittest.TestCase):

    def test_4999_5000_and_5001_steps(self):
        for cell in (False, True):
            for many, expected in ((4998, ("value", 0)), (4999, ("value", 0)), (5000, ("value", 0)), (5001, ("long",)),
                                   (5002, ("long",)), (5100, ("long",))):
                program = program_of_steps(many, cell)
                world = (("f", ()), ("g", (("of", 0),)), ("g", (1,)))
                self.assertEqual(steps(program, world)[0], min(many, 5000), (many, cell))
                outcome, own, works, made = traces(program, world)[0]
                self.assertEqual(outcome, expected, (many, cell))
                if cell and many <= 5000:
                    self.assertEqual(works, ((0, 2 + 7 * 700 + 4),))
                else:
                    self.assertEqual((own, works), (min(many, 5000), ()))
                self.assertEqual(made, (0,) if cell else ())
                self.assertEqual(outcomes(program, world)[1:],
                                 (("value", 1) if many <= 5000 else ("none",), ("value", 2)))

    def test_each_deed_has_its_own_5000_steps(self):
        program = program_of_steps(5000, False)
        self.assertEqual(steps(program, (("f", ()),) * 3), (5000, 5000, 5000))
        self.assertEqual(outcomes(program, (("f", ()),) * 3), (("value", 0),) * 3)

    def test_stuck_at_the_last_step_is_stuck(self):
        for many, expected in ((4999, "stuck"), (5000, "stuck"), (5001, "long")):
            pad = many - 3
            program = read_program("(def f () (T" + " 1" * (pad - 1) + " (+ 1 (U))))")
            self.assertEqual(outcomes(program, (("f", ()),)), ((expected,),))
            self.assertEqual(steps(program, (("f", ()),)), (min(many, 5000),))

    def test_a_cell_that_is_cut_off_and_is_asked_again(self):
        program = read_program(BURN + "(def make (n) (delay (burn n))) (def after (n c) (+ (burn n) (force c))) "
                               "(def ask (c) (force c)) (def over (c) (delay (+ 1 (force c))))")
        world = (("make", (500,)), ("over", (("of", 0),)), ("after", (300, ("of", 1))), ("ask", (("of", 1),)),
                 ("after", (300, ("of", 1))), ("ask", (("of", 2),)))
        told = traces(program, world)
        self.assertEqual(told[2], (("long",), 5000, (), ()))
        self.assertEqual(told[3], (("value", 1), 2, ((0, 2 + 7 * 500 + 4), (1, 4)), ()))
        self.assertEqual(told[4], (("value", 1), 3 + 2 + 7 * 300 + 4, (), ()))
        self.assertEqual(told[5], (("none",), 0, (), ()))

    def test_a_cell_that_is_worked_out_within_one_that_is_cut_off(self):
        program = read_program(BURN + "(def make (n) (delay (burn n))) (def over (c n) (delay (+ (force c) (burn n)))) "
                               "(def ask (c) (force c))")
        world = (("make", (400,)), ("over", (("of", 0), 400)), ("ask", (("of", 1),)), ("ask", (("of", 1),)))
        told = traces(program, world)
        work = 2 + 7 * 400 + 4
        self.assertEqual(told[2], (("long",), 5000 - work, ((0, work),), ()))
        self.assertEqual(told[3], (("value", 0), 2, ((1, 3 + work),), ()))

    def test_no_step_too_many_for_a_cell(self):
        others = 3 + (7 * 600 + 4) + 3 + 1
        left = 5000 - others
        # The last step of the deed is one behind the cell: with one step more in the cell it is not made any more, and
        # with two more the cell is cut off itself.
        for more, expected, works in ((0, ("value", 1), ((0, left),)), (1, ("long",), ((0, left + 1),)), (2, ("long",), ())):
            body = "(T" + " 1" * (left - 1 + more) + ")"
            program = read_program(BURN + "(def make () (delay " + body + ")) (def size (t) 1)\n"
                                   "(def f (c) (+ (burn 600) (size (force c))))")
            told = traces(program, (("make", ()), ("f", (("of", 0),))))
            self.assertEqual((told[1][0], told[1][2]), (expected, works))
            self.assertEqual(told[1][1], 5000 - sum(work for _, work in works))

    def test_nested_thousands_deep(self):
        program = read_program("(def add () (+ (add) 1)) (def make () (T (make))) (def cell () (force (delay (cell)))) "
                               "(def loop () (loop)) (def pick () (case (pick) ((T a) a))) (def keep () (let x (keep) x)) "
                               "(def give (x) (give (give x))) (def test () (if < (test) 1 2 3))")
        world = tuple((f, (1,) if parameters else ()) for f, parameters, _ in program)
        for k in range(len(world)):
            told = traces(program, world[k:k + 1])
            self.assertEqual(told[0][:3], (("long",), 5000, ()))
            self.assertEqual(len(told[0][3]), 1667 if world[k][0] == "cell" else 0)

    def test_nested_thousands_deep_and_back(self):
        program = read_program("(def up (n) (if < n 1 0 (+ 1 (up (- n 1))))) (def row (n c) (if = n 0 c (row (- n 1) "
                               "(delay (+ 1 (force c)))))) (def zero () (delay 0)) (def ask (c) (force c))")
        self.assertEqual(traces(program, (("up", (550,)),)), ((("value", 550), 9 * 550 + 4, (), ()),))
        world = (("zero", ()), ("row", (450, ("of", 0))), ("ask", (("of", 1),)), ("ask", (("of", 1),)))
        told = traces(program, world)
        self.assertEqual(told[2], (("value", 450), 2, ((0, 1),) + tuple((k, 4) for k in range(1, 451)), ()))
        self.assertEqual(told[3], (("value", 450), 2, (), ()))


class PlainTests(unittest.TestCase):

    def assert_plain(self, program, world):
        machine = plain_machine(program, world)
        if machine is None:
            return []
        self.assertEqual(repr(traces(program, world)), repr(tuple(machine.traces)), (program, world))
        return [trace[0][0] for trace in machine.traces] + ["works" for trace in machine.traces if trace[2]]

    def compare(self, pairs, floor):
        met = []

        def go():
            for program, world in pairs:
                met.extend(self.assert_plain(program, world))

        with_much_room(go)
        for word in ("value", "stuck", "long", "none", "works"):
            self.assertGreater(met.count(word), floor, word)

    def test_programs_by_chance(self):
        pairs = []
        for chance in chances(0, 700):
            program = some_program(chance)
            pairs.append((program, some_world(chance, program, 8)))
        self.compare(pairs, 20)

    def test_streams_by_chance(self):
        self.compare([(STREAMS, streams_world(chance, 14)) for chance in chances(0, 500)], 20)


if __name__ == "__main__":
    unittest.main()
