"""The limits of parts 3 to 6: what lies at their edges is answered promptly, and going beyond is no error."""

import time
import unittest

from debtsheld.books import charge_holds, judge_charge, least_charge, payers, roots
from debtsheld.kinds import is_kind_program, is_kind_world, judge_kind, kind_holds, meanings
from debtsheld.programs import read_program
from debtsheld.worlds import is_part, is_world, line, outcomes, steps, traces
from tests.samples import ANY_VALUES, BOXES, KIND_PROGRAMS, LIST, TWO, WAITING, outcome

SECONDS = 5


class LimitTests(unittest.TestCase):

    def setUp(self):
        self.began = time.perf_counter()

    def tearDown(self):
        self.assertLess(time.perf_counter() - self.began, SECONDS)

    def assert_charges(self, program, world):
        """The least charge and the one below have the right certificates."""
        c = least_charge(program, world)
        for charge, held in ((c, True), (c - 1, False), (10 ** 9, True), (0, False)):
            word, thing = judge_charge(program, world, charge)
            self.assertEqual(word == "book", held)
            self.assertIs(charge_holds(program, world, charge, (word, thing)), True)
        return c

    def test_very_many_ways(self):
        for many in (40, 60, 200):
            world = (("box", (1,)),) + tuple(("both", (("of", k), ("of", k))) for k in range(many - 1))
            self.assertIs(is_world(BOXES, world), True)
            self.assertEqual(line(BOXES, world, many - 1), tuple(range(many)))
            self.assertIs(is_part(BOXES, world, tuple(range(many))), True)
            self.assertIs(is_part(BOXES, world, tuple(range(1, many))), False)
            self.assertEqual(roots(BOXES, world), tuple(range(many)))
            self.assertEqual(payers(BOXES, world), ())
            world += (("ask", (("of", many - 1),)),)
            self.assertEqual(outcomes(BOXES, world)[-1], ("value", 2 ** (many - 1)))
            self.assertEqual(payers(BOXES, world), tuple((k, tuple(range(k, many + 1))) for k in range(many)))
        world = (("box", (1,)), ("box", (2,))) + tuple(("both", (("of", k), ("of", k + 1))) for k in range(37))
        world += (("ask", (("of", 38),)),)
        self.assertEqual(len(world), 40)
        self.assertEqual(line(BOXES, world, 39), tuple(range(40)))
        self.assertEqual(steps(BOXES, world)[39], 2 + 2 + 5 * 37)
        self.assert_charges(BOXES, world)

    def test_100_cells_of_40_deeds(self):
        # A row of cells that each deed goes on with, so that nearly all deeds can pay for nearly all cells
        program = read_program("(def row (n) (delay (if < n 1 (N) (C n (row (- n 1))))))"
                               "(def go (s) (case (force s) ((C x t) t)))"
                               "(def all (s) (case (force s) ((N) 0) ((C x t) (+ x (all t)))))")
        world = (("row", (100,)),) + tuple(("go", (("of", k),)) for k in range(38)) + (("all", (("of", 38),)),)
        self.assertEqual(sum(len(trace[2]) for trace in traces(program, world)), 101)
        self.assertEqual([len(deeds) for _, deeds in payers(program, world)], list(range(2, 40)) + [40] * 63)
        self.assert_charges(program, world)

    def test_6000_steps_and_500_cells(self):
        program = read_program("(def row (n) (delay (if < n 1 (N) (C n (row (- n 1)))))) "
                               "(def count (s) (case (force s) ((N) 0) ((C x t) (+ 1 (count t))))) "
                               "(def many (n c) (if < n 1 c (many (- n 1) (delay (force c))))) "
                               "(def ask (c) (force c)) (def zero () (delay 0))")
        world = (("row", (240,)), ("count", (("of", 0),)), ("zero", ()), ("many", (240, ("of", 2))), ("ask", (("of", 3),)))
        self.assertEqual([told[0] for told in outcomes(program, world)], ["value"] * 5)
        self.assertEqual(outcomes(program, world)[1], ("value", 240))
        self.assertEqual(len(roots(program, world)), 241 + 1 + 240)
        self.assertGreater(sum(steps(program, world)), 5900)
        self.assert_charges(program, world)

    def test_40_long_deeds(self):
        program = read_program("(def loop (x) (loop (+ x 1))) (def cells (c) (cells (delay (force c))))")
        world = (("loop", (0,)), ("cells", (0,))) * 20
        self.assertEqual(steps(program, world), (5000,) * 40)
        self.assertEqual(least_charge(program, world), 5000)
        self.assertEqual(judge_charge(program, world, 5000), ("book", ()))

    def test_deep_and_wide_values(self):
        program = read_program("(def zero () (Z)) (def up (v) (S v)) (def down (v) (case v ((S w) w)))"
                               "(def wide () (W" + " 1" * 1400 + "))")
        world = (("zero", ()),) + tuple(("up", (("of", k),)) for k in range(39))
        v = outcomes(program, world)[39][1]
        for _ in range(39):
            self.assertEqual((v[0], len(v[1])), ("S", 1))
            v = v[1][0]
        self.assertEqual(v, ("Z", ()))
        self.assertEqual(outcomes(program, (("wide", ()),)), (("value", ("W", (1,) * 1400)),))
        program = read_program("(def up (n) (if < n 1 (Z) (S (up (- n 1)))))")
        self.assertEqual(steps(program, (("up", (500,)),)), (8 * 500 + 4,))

    def test_programs_of_1500_expressions(self):
        body = "(T" + " (let y x y)" * 490 + ")"
        program = read_program("(def f (x) " + body + ") (def g (x) (force (delay (f x))))")
        world = (("f", (3,)), ("g", (4,)), ("g", (5,)))
        self.assertEqual(steps(program, world), (1 + 3 * 490, 2 + 2 + 1 + 3 * 490, 2 + 2 + 1 + 3 * 490))
        self.assertEqual(outcomes(program, world)[2], ("value", ("T", (5,) * 490)))

    def test_deeds_with_very_many_arguments(self):
        names = " ".join("x" + str(k) for k in range(2000))
        program = read_program("(def f (" + names + ") (T" + " (let y x1999 y)" * 400 + ")) (def g () 7)")
        world = (("g", ()), ("f", (("of", 0),) * 2000))
        self.assertEqual(outcomes(program, world)[1], ("value", ("T", (7,) * 400)))
        self.assertEqual(line(program, world, 1), (0, 1))

    def test_certificates_with_2000_parts(self):
        world = (("box", (1,)), ("more", (("of", 0),)), ("ask", (("of", 1),)))
        for thing in (("book", tuple((0, k, 1) for k in range(1900))), ("lot", tuple(range(1900))),
                      ("book", ((0, 0, 1),) * 600), ("lot", (0,) * 1900), ("own", tuple(range(1900))), tuple(range(1999))):
            for c in (0, 1, 5, 10 ** 9, 10 ** 30):
                self.assertIs(charge_holds(BOXES, world, c, thing), False)
        self.assertEqual(judge_charge(BOXES, world, 10 ** 30)[0], "book")

    def test_worlds_of_a_kind_with_40_deeds_and_60_items(self):
        for kind, program in KIND_PROGRAMS:
            if program == WAITING:
                # Its last deed would be long.
                continue
            add = {"queue": ("put", "vn"), "deque": ("back", "vn"), "list": ("cons", "nv"), "joined": ("join", "vv"),
                   "heap": ("insert", "vn")}[kind]
            world = [("empty", ())] if kind != "joined" else [("one", (5,))]
            for k in range(38):
                if kind == "joined":
                    world.append(("join", (("of", k), ("of", 0))))
                else:
                    world.append((add[0], tuple(("of", k) if sort == "v" else (7 * k) % 40 for sort in add[1])))
            asked = {"queue": "first", "deque": "last", "list": "head", "joined": "first", "heap": "least"}[kind]
            world = tuple(world + [(asked, (("of", 38),))])
            self.assertEqual(len(world), 40)
            self.assertIs(is_kind_world(kind, world), True)
            self.assertIs(is_kind_program(kind, program), True)
            self.assertEqual(len(meanings(kind, world)[38][1]), 39 if kind == "joined" else 38)
            self.assertEqual(judge_kind(kind, program, world), ("right",))
            self.assertIs(kind_holds(kind, program, world, ("right",)), True)
        world = tuple([("empty", ())] + [("cons", (k, ("of", k))) for k in range(60)] + [("look", (("of", 60), 59))])
        self.assertEqual(meanings("list", world)[61], ("answer", 0))
        self.assertEqual(judge_kind("list", LIST, world), ("right",))

    def test_many_ways_to_one_version(self):
        # Versions of a heap that use one version twice: with 60 items it is merged at most six times.
        world = (("empty", ()), ("insert", (("of", 0), 3))) + tuple(("merge", (("of", k), ("of", k))) for k in range(1, 6))
        self.assertEqual(meanings("heap", world)[6], ("version", (3,) * 32))
        world = (("empty", ()),) + tuple(("merge", (("of", k), ("of", k))) for k in range(39))
        self.assertEqual(meanings("heap", world), (("version", ()),) * 40)
        world = (("empty", ()),) + tuple(("join", (("of", k), ("of", k))) for k in range(39))
        self.assertEqual(meanings("joined", world), (("version", ()),) * 40)

    def test_any_values_as_worlds_and_certificates(self):
        world = (("empty", ()),)
        deep = (("empty", ()), ("put", (("of", 0), (((((((1,),),),),),),))))
        self.assertIs(is_world(TWO, deep), False)
        self.assertIs(is_kind_world("queue", deep), False)
        for thing in ANY_VALUES:
            self.assertIs(is_part(TWO, world, thing), thing == ())
            self.assertIs(charge_holds(TWO, world, 5, thing), False)
            self.assertIs(kind_holds("queue", TWO, world, thing), False)
            self.assertEqual(outcome(is_world, TWO, thing), ("returned", thing == ()))


if __name__ == "__main__":
    unittest.main()
