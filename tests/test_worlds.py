"""[4.1] Worlds, [4.2] outcomes, [4.3] steps and traces, [4.4] lines and parts."""

import itertools
import unittest

from debtsheld.programs import read_program
from debtsheld.worlds import is_part, is_world, line, outcomes, steps, traces
from tests.plain import chances, some_line, some_program, some_world
from tests.samples import ANY_VALUES, BOX, BOXES, STREAMS, a_desk, outcome, program_of, streams_world

WORLD = (("box", (4,)), ("open", (("of", 0),)), ("open", (("of", 0),)), ("open", (7,)))
FAULTY = program_of(("name", "y"))

# What is no deed behind two others, whatever is said of BOX.
BAD_DEEDS = (
    (), ("box",), ("box", (1,), ()), ["box", (1,)], ("box", [1]), ("box", 1), ("box", None), ("box", {1: 1}),
    ("box", ()), ("box", (1, 2)), ("box", ("1",)), ("box", (True,)), ("box", (None,)), ("box", ([1],)),
    ("box", ({},)), ("box", ((),)), ("box", (("of",),)), ("box", (("of", 0, 0),)), ("box", (["of", 0],)),
    ("box", (("of", 2),)), ("box", (("of", 3),)), ("box", (("of", -1),)), ("box", (("of", True),)),
    ("box", (("of", False),)), ("box", (("of", "0"),)), ("box", (("of", None),)), ("box", (("of", (0,)),)),
    ("box", (("off", 0),)), ("box", ((0, "of"),)), ("box", (("Of", 0),)), ("box", (([], 0),)), ("box", (({}, 0),)),
    ("Box", (1,)), ("none", (1,)), ("", (1,)), (1, (1,)), (None, (1,)), (["box"], (1,)), (("box",), (1,)),
    ({}, (1,)), ((1,), "box"), "box", 7, None, True, [], {}, a_desk(), (a_desk(), (1,)), ("box", (a_desk(),)),
    ("box", (("of", a_desk()),)), ("box", (("cell", 0),)), ("box", (("Box", (1,)),)), (("box", (1,)),), (("box", (1,)),) * 2,
)


class WorldTests(unittest.TestCase):

    def assert_world(self, program, thing, expected):
        self.assertIs(is_world(program, thing), expected, repr(thing)[:200])
        for function in (traces, outcomes, steps):
            if not expected:
                self.assertEqual(outcome(function, program, thing), ("raised", "BadWorld", thing))
                self.assertIs(outcome(function, program, thing)[2], thing)
            else:
                self.assertEqual(len(function(program, thing)), len(thing))

    def test_worlds(self):
        for world in ((), WORLD[:1], WORLD[:2], WORLD, (("box", (-10 ** 12 + 1,)),), (("open", (0,)),) * 40,
                      (("box", (1,)),) + tuple(("box", (("of", k),)) for k in range(30))):
            self.assert_world(BOX, world, True)
        both = read_program("(def f (a b c) a) (def g () 1)")
        for world in ((("g", ()),), (("g", ()), ("f", (1, ("of", 0), ("of", 0))), ("f", (("of", 1),) * 3))):
            self.assert_world(both, world, True)

    def test_bad_deeds(self):
        good = (("box", (1,)), ("box", (("of", 0),)))
        self.assert_world(BOX, good, True)
        for bad in BAD_DEEDS:
            for world in (good + (bad,), good + (bad, ("box", (1,))), [*good, bad]):
                self.assert_world(BOX, world, False)
        for bad in BAD_DEEDS:
            if bad not in (("box", (("of", 2),)), ("box", (("of", 3),))):
                self.assert_world(BOX, (bad,) + good, False)

    def test_a_deed_does_not_use_itself_or_a_later_one(self):
        for k, expected in ((0, True), (1, True), (2, False), (3, False), (4, False)):
            world = (("box", (1,)), ("box", (2,)), ("open", (("of", k),)), ("box", (3,)))
            self.assert_world(BOX, world, expected)
        self.assert_world(BOX, (("open", (("of", 0),)),), False)

    def test_any_values(self):
        for thing in ANY_VALUES:
            self.assert_world(BOX, thing, thing == ())
        self.assert_world(BOX, list(WORLD), False)
        self.assert_world(BOX, (WORLD,), False)
        self.assert_world(BOX, WORLD[0], False)
        self.assert_world(BOX, traces(BOX, WORLD), False)

    def test_a_bool_behind_its_equal(self):
        self.assert_world(BOX, (("box", (1,)), ("open", (("of", 0),))), True)
        self.assert_world(BOX, (("box", (True,)), ("open", (("of", 0),))), False)
        self.assert_world(BOX, (("box", (1,)), ("open", (("of", False),))), False)

    def test_errors_in_their_order(self):
        for function in (is_world, traces, outcomes, steps, line, is_part):
            more = () if function in (is_world, traces, outcomes, steps) else ("no",)
            for bad in ANY_VALUES:
                got = outcome(function, bad, "no", *more)
                self.assertEqual(got[:2], ("raised", "BadProgram"))
                self.assertIs(got[2], bad)
            got = outcome(function, FAULTY, "no", *more)
            self.assertEqual(got[:2], ("raised", "BadChecked"))
            self.assertIs(got[2], FAULTY)
        self.assertIs(is_world(BOX, "no"), False)
        for function in (line, is_part):
            world = [1]
            got = outcome(function, BOX, world, "no")
            self.assertEqual(got[:2], ("raised", "BadWorld"))
            self.assertIs(got[2], world)


class OutcomeTests(unittest.TestCase):

    def test_the_world_without_deeds(self):
        for function in (traces, outcomes, steps):
            self.assertEqual(function(BOX, ()), ())

    def test_none_comes_from_none_stuck_and_long(self):
        program = read_program("(def bad () (force 1)) (def loop () (loop)) (def one (x) 1) (def two (x y) x)")
        world = (("bad", ()), ("loop", ()), ("one", (("of", 0),)), ("one", (("of", 1),)), ("one", (("of", 2),)),
                 ("one", (5,)), ("two", (("of", 5), ("of", 4))), ("two", (("of", 1), 3)), ("two", (("of", 5), 3)))
        self.assertEqual(outcomes(program, world), (("stuck",), ("long",), ("none",), ("none",), ("none",), ("value", 1),
                                                    ("none",), ("none",), ("value", 1)))
        self.assertEqual(steps(program, world), (2, 5000, 0, 0, 0, 1, 0, 0, 1))
        self.assertEqual(traces(program, world)[2], (("none",), 0, (), ()))

    def test_a_deed_of_none_makes_nothing_and_works_nothing_out(self):
        world = (("box", (1,)), ("ask", (5,)), ("use", (("of", 0), ("of", 1))), ("both", (("of", 0), ("of", 1))),
                 ("ask", (("of", 0),)))
        told = traces(BOXES, world)
        self.assertEqual(told[1:4], ((("stuck",), 2, (), ()), (("none",), 0, (), ()), (("none",), 0, (), ())))
        self.assertEqual(told[4], (("value", 1), 2, ((0, 1),), ()))

    def test_an_elder_version_used_again(self):
        world = (("upto", (3,)), ("tail", (("of", 0),)), ("total", (("of", 0),)), ("tail", (("of", 0),)),
                 ("total", (("of", 1),)), ("append", (("of", 1), ("of", 0))), ("total", (("of", 5),)),
                 ("total", (("of", 0),)), ("head", (("of", 3),)))
        told = outcomes(STREAMS, world)
        self.assertEqual(told[1], told[3])
        self.assertEqual([told[k][1] for k in (2, 4, 6, 7, 8)], [6, 3, 9, 6, 2])

    def test_one_result_used_twice_by_one_deed(self):
        world = (("box", (4,)), ("both", (("of", 0), ("of", 0))), ("use", (("of", 1), ("of", 1))))
        self.assertEqual(traces(BOXES, world)[2], (("value", 16), 5, ((0, 1), (1, 5)), ()))

    def test_traces_steps_and_outcomes_agree(self):
        for chance in chances(0, 60):
            world = streams_world(chance, 12)
            told = traces(STREAMS, world)
            self.assertEqual(outcomes(STREAMS, world), tuple(trace[0] for trace in told))
            self.assertEqual(steps(STREAMS, world), tuple(trace[1] + sum(w for _, w in trace[2]) for trace in told))
            made = [cell for trace in told for cell in trace[3]]
            self.assertEqual(made, list(range(len(made))))
            worked = [cell for trace in told for cell, _ in trace[2]]
            self.assertEqual(len(set(worked)), len(worked))
            self.assertTrue(set(worked) <= set(made))

    def test_later_deeds_do_not_matter(self):
        for chance in chances(100, 60):
            world = streams_world(chance, 12)
            told = traces(STREAMS, world)
            for k in range(len(world) + 1):
                self.assertEqual(traces(STREAMS, world[:k]), told[:k])

    def test_versions_keep_their_meaning(self):
        # A world that is done alone, and in which each deed is done a second time, has the same answers.
        met = 0
        for chance in chances(200, 150):
            # Only whether a deed is long could differ.
            world = tuple({"burn": ("upto", (3,)), "slow": ("later", arguments[:1])}.get(f, (f, arguments))
                          for f, arguments in streams_world(chance, 9))
            twice = []
            for f, arguments in world:
                second = tuple(("of", 2 * a[1] + 1) if isinstance(a, tuple) else a for a in arguments)
                first = tuple(("of", 2 * a[1]) if isinstance(a, tuple) else a for a in arguments)
                twice += [(f, first), (f, second)]
            once, both = outcomes(STREAMS, world), outcomes(STREAMS, tuple(twice))
            for k in range(len(world)):
                for other in both[2 * k:2 * k + 2]:
                    self.assertEqual(once[k][0], other[0])
                    if once[k][0] == "value" and isinstance(once[k][1], int):
                        self.assertEqual(once[k], other)
                        met += 1
        self.assertGreater(met, 60)


class LineTests(unittest.TestCase):

    def test_lines(self):
        self.assertEqual([line(BOX, WORLD, k) for k in range(4)], [(0,), (0, 1), (0, 2), (3,)])
        world = (("box", (1,)), ("box", (2,)), ("both", (("of", 0), ("of", 0))), ("more", (("of", 2),)),
                 ("both", (("of", 1), ("of", 3))), ("pick", (3, ("of", 1))))
        self.assertEqual([line(BOXES, world, k) for k in range(6)],
                         [(0,), (1,), (0, 2), (0, 2, 3), (0, 1, 2, 3, 4), (1, 5)])

    def test_a_line_has_what_is_used_whatever_comes_of_it(self):
        world = (("ask", (1,)), ("ask", (("of", 0),)), ("pick", (2, ("of", 1))))
        self.assertEqual(outcomes(BOXES, world), (("stuck",), ("none",), ("none",)))
        self.assertEqual(line(BOXES, world, 2), (0, 1, 2))

    def test_no_position(self):
        for k in (4, 5, -1, -4, 10 ** 20, True, False, None, "0", (0,), [0], {}, "", a_desk()):
            got = outcome(line, BOX, WORLD, k)
            self.assertEqual(got[:2], ("raised", "BadNumber"))
            self.assertIs(got[2], k)
        self.assertEqual(outcome(line, BOX, (), 0), ("raised", "BadNumber", 0))

    def test_parts(self):
        for thing, expected in (
            ((), True), ((0,), True), ((1,), False), ((0, 1), True), ((0, 2), True), ((1, 2), False), ((3,), True),
            ((0, 3), True), ((0, 1, 2, 3), True), ((1, 0), False), ((0, 0), False), ((0, 1, 1), False),
            ((3, 0), False), ((0, 4), False), ((4,), False), ((-1,), False), ((-1, 0), False), ((False,), False),
            ((0, True), False), ((False, 1), False), ([], False), ([0], False), ([0, 1], False), (0, False),
            ("", False), ("0", False), (("0",), False), ((0, "1"), False), ((None,), False), (((0,),), False),
            ((0, None), False), ({}, False), ({0: 1}, False), (None, False), (((),), False), (([],), False),
            (tuple(range(2000)), False),
        ):
            self.assertIs(is_part(BOX, WORLD, thing), expected, thing)
        for thing in ANY_VALUES:
            self.assertIs(is_part(BOX, WORLD, thing), thing == ())
        self.assertIs(is_part(BOX, (), ()), True)
        self.assertIs(is_part(BOX, (), (0,)), False)

    def test_all_sets_of_deeds(self):
        met = {True: 0, False: 0}
        for chance in chances(0, 60):
            program = some_program(chance)
            world = some_world(chance, program, 7)
            for k in range(len(world)):
                self.assertEqual(line(program, world, k), tuple(sorted(some_line(world, k))))
            if chance.random() < 0.7:
                continue
            for size in range(len(world) + 1):
                for deeds in itertools.combinations(range(len(world)), size):
                    expected = all(some_line(world, k) <= set(deeds) for k in deeds)
                    self.assertIs(is_part(program, world, deeds), expected)
                    met[expected] += 1
        self.assertGreater(min(met.values()), 100)


if __name__ == "__main__":
    unittest.main()
