"""[9.1] Desks, and desks as any value [0.3]."""

import inspect
import unittest

from debtsheld import desk as module
from debtsheld.books import charge_holds, judge_charge
from debtsheld.checker import fault
from debtsheld.desk import Desk
from debtsheld.kinds import is_kind_program, is_kind_world, judge_kind, kind_holds, meanings
from debtsheld.made import branched, slow_world
from debtsheld.programs import is_program, program_text, read_program
from debtsheld.shelf import keeps, kind_of, names, promise, shelf
from debtsheld.worlds import is_part, is_world, line, steps, traces
from tests.plain import chances, some_program, some_world
from tests.plain_kinds import lively_world
from tests.samples import (
    ANY_VALUES, BOX, BOXES, STREAMS, TWO, a_desk, boxes_world, copied, frozen, outcome, program_of, streams_world,
)
from tests.test_worlds import BAD_DEEDS

WORLD = (("box", (4,)), ("open", (("of", 0),)), ("open", (("of", 0),)), ("open", (7,)))
BAD = read_program("(def bad () (force 1)) (def loop (x) (loop (+ x 1))) (def wait (x) (delay (loop x))) (def ask (c) (force c))"
                   "(def box (x) (delay (+ x 1))) (def half (c) (P (delay 1) (force c) (force 2) (delay 3))) (def all (a b) (force a))")


class DeskTests(unittest.TestCase):

    def assert_desk(self, desk, program, world):
        """The desk tells what its world is."""
        self.assertEqual(desk.world(), world)
        self.assertIs(type(desk.world()), tuple)
        self.assertEqual(desk.steps(), sum(steps(program, world)))

    def test_interface(self):
        self.assertEqual(Desk.__module__, module.__name__)
        self.assertEqual(Desk.__bases__, (object,))
        self.assertEqual(list(inspect.signature(Desk).parameters), ["program"])
        for name, parameters in (("do", ["deed"]), ("undo", []), ("world", []), ("steps", []), ("mark", []), ("back", ["mark"])):
            self.assertIn(name, Desk.__dict__)
            self.assertEqual(list(inspect.signature(Desk.__dict__[name]).parameters)[1:], parameters)
        self.assertEqual(Desk(program=BOX).do(deed=WORLD[0]), Desk(BOX).do(WORLD[0]))
        desk = Desk(BOX)
        self.assertIs(desk.back(mark=desk.mark()), None)

    def test_a_new_desk(self):
        for program in (BOX, BOXES, STREAMS, BAD, shelf("real")):
            desk = Desk(program)
            self.assert_desk(desk, program, ())
            self.assertIs(desk.undo(), False)
            self.assert_desk(desk, program, ())
            self.assertEqual(desk.mark(), 0)

    def test_each_deed_has_the_trace_of_the_world(self):
        for program, make in ((STREAMS, streams_world), (BOXES, boxes_world)):
            for chance in chances(0, 40):
                world = make(chance, 14)
                desk = Desk(program)
                for k, deed in enumerate(world):
                    self.assert_desk(desk, program, world[:k])
                    self.assertEqual(frozen(desk.do(deed)), frozen(traces(program, world)[k]))
                self.assert_desk(desk, program, world)

    def test_programs_by_chance(self):
        for chance in chances(0, 60):
            program = some_program(chance)
            world = some_world(chance, program, 8)
            desk = Desk(program)
            self.assertEqual(tuple([desk.do(deed) for deed in world]), traces(program, world))
            for k in range(len(world), 0, -1):
                self.assertIs(desk.undo(), True)
                self.assert_desk(desk, program, world[:k - 1])
            self.assertEqual(tuple([desk.do(deed) for deed in world]), traces(program, world))

    def test_stuck_long_and_none(self):
        world = (("bad", ()), ("ask", (("of", 0),)), ("wait", (0,)), ("box", (5,)), ("ask", (("of", 2),)), ("half", (("of", 3),)),
                 ("ask", (("of", 3),)), ("all", (("of", 2), ("of", 3))), ("loop", (1,)), ("all", (("of", 8), ("of", 3))), ("box", (1,)))
        told = traces(BAD, world)
        self.assertEqual([trace[0][0] for trace in told], ["stuck", "none", "value", "value", "long", "stuck", "value", "long",
                                                           "long", "none", "value"])
        self.assertEqual(told[5][2:], (((1, 3),), (2,)))
        desk = Desk(BAD)
        for many in range(len(world) + 1):
            while len(desk.world()) < many:
                self.assertEqual(desk.do(world[len(desk.world())]), told[len(desk.world()) - 1])
            # Each deed back and again, and so on to the beginning
            for back in range(1, many + 1):
                for _ in range(back):
                    self.assertIs(desk.undo(), True)
                self.assert_desk(desk, BAD, world[:many - back])
                for k in range(many - back, many):
                    self.assertEqual(desk.do(world[k]), told[k])
            self.assert_desk(desk, BAD, world[:many])

    def test_what_was_undone_is_as_if_it_had_not_been(self):
        program = read_program("(def box (x) (delay (+ x 1))) (def ask (c) (force c)) (def both (c d) (P (force c) (delay (force d))))"
                               "(def open (p) (case p ((P a c) (force c))))")
        desk = Desk(program)
        desk.do(("box", (1,)))
        desk.do(("box", (2,)))
        first = desk.do(("both", (("of", 0), ("of", 1))))
        self.assertEqual(first, (("value", ("P", (2, ("cell", 2)))), 4, ((0, 3),), (2,)))
        self.assertEqual(desk.do(("open", (("of", 2),))), (("value", 3), 4, ((1, 3), (2, 2)), ()))
        self.assertIs(desk.undo(), True)
        # The cells that the last deed had worked out are delayed again.
        self.assertEqual(desk.do(("ask", (("of", 1),))), (("value", 3), 2, ((1, 3),), ()))
        self.assertIs(desk.undo(), True)
        self.assertIs(desk.undo(), True)
        # The cell that was made has its number free again.
        self.assertEqual(desk.do(("box", (9,))), (("value", ("cell", 2)), 1, (), (2,)))
        self.assertEqual(desk.do(("both", (("of", 2), ("of", 0)))), (("value", ("P", (10, ("cell", 3)))), 4, ((2, 3),), (3,)))
        self.assertEqual(desk.do(("ask", (("of", 0),))), (("value", 2), 2, ((0, 3),), ()))

    def test_marks(self):
        desk = Desk(BOX)
        self.assertEqual(desk.mark(), 0)
        desk.do(WORLD[0])
        self.assertEqual([desk.mark(), desk.mark()], [1, 2])
        desk.do(WORLD[1])
        desk.do(WORLD[2])
        self.assertEqual(desk.mark(), 3)
        self.assertIs(desk.back(1), None)
        self.assert_desk(desk, BOX, WORLD[:1])
        # There are not more deeds than were noted: nothing is removed or done again.
        self.assertIs(desk.back(3), None)
        self.assert_desk(desk, BOX, WORLD[:1])
        self.assertIs(desk.back(2), None)
        self.assert_desk(desk, BOX, WORLD[:1])
        # The marks are as they were.
        for deed in WORLD[1:]:
            desk.do(deed)
        self.assertIs(desk.back(3), None)
        self.assert_desk(desk, BOX, WORLD[:3])
        self.assertEqual(desk.mark(), 4)
        self.assertIs(desk.back(0), None)
        self.assert_desk(desk, BOX, ())
        self.assertIs(desk.undo(), False)
        self.assertIs(desk.back(4), None)
        self.assertEqual(desk.mark(), 5)

    def test_undo_does_not_change_marks(self):
        desk = Desk(BOX)
        desk.do(WORLD[0])
        desk.do(WORLD[1])
        self.assertEqual(desk.mark(), 0)
        desk.undo()
        desk.undo()
        self.assertEqual(desk.mark(), 1)
        for deed in WORLD:
            desk.do(deed)
        desk.back(0)
        self.assert_desk(desk, BOX, WORLD[:2])
        desk.back(1)
        self.assert_desk(desk, BOX, ())

    def test_all_methods_by_chance(self):
        for program, make in ((STREAMS, streams_world), (BOXES, boxes_world), (BAD, None)):
            for chance in chances(0, 25 if make else 5):
                desk, world, marks = Desk(program), (), []
                for _ in range(40):
                    way = chance.choice(("do", "do", "do", "do", "undo", "mark", "back", "wrong"))
                    if way == "do":
                        deeds = make(chance, 12) if make else some_world(chance, program, 12)
                        deeds = [deed for deed in deeds if is_world(program, world + (deed,))][-1:]
                        for deed in deeds:
                            world += (deed,)
                            self.assertEqual(desk.do(deed), traces(program, world)[-1])
                    elif way == "undo":
                        self.assertIs(desk.undo(), world != ())
                        world = world[:-1]
                    elif way == "mark":
                        self.assertEqual(desk.mark(), len(marks))
                        marks.append(len(world))
                    elif way == "back" and marks:
                        k = chance.randrange(len(marks))
                        self.assertIs(desk.back(k), None)
                        world = world[:marks[k]]
                    elif way == "wrong":
                        self.assertEqual(outcome(desk.back, len(marks)), ("raised", "BadNumber", len(marks)))
                        self.assertEqual(outcome(desk.do, ("no", ()))[:2], ("raised", "BadDeed"))
                    self.assert_desk(desk, program, world)

    def test_worlds_of_the_shelf(self):
        for name in names():
            program = shelf(name)
            for chance in chances(0, 4):
                world = lively_world(kind_of(name), chance)
                desk = Desk(program)
                self.assertEqual(tuple([desk.do(deed) for deed in world]), traces(program, world))
                mark = desk.mark()
                for _ in range(20):
                    desk.undo()
                for deed in world[20:]:
                    desk.do(deed)
                desk.back(mark)
                self.assert_desk(desk, program, world)

    def test_two_desks(self):
        one, two = Desk(BOX), Desk(BOX)
        self.assertIs(one == two, False)
        self.assertIs(one != two, True)
        self.assertIs(one == one, True)
        self.assertIs(one != one, False)
        self.assertEqual(((one, 1) == (one, 1), (one, 1) == (two, 1), one in [two], one in [two, one]), (True, False, False, True))
        one.do(WORLD[0])
        self.assertEqual(one.mark(), 0)
        self.assert_desk(two, BOX, ())
        self.assertEqual(outcome(two.back, 0)[:2], ("raised", "BadNumber"))
        self.assertIs(one == two, False)

    def test_what_a_desk_returned_does_not_change(self):
        desk = Desk(BOX)
        trace = desk.do(WORLD[0])
        before, world = frozen(trace), desk.world()
        desk.do(WORLD[1])
        desk.undo()
        desk.undo()
        self.assertEqual(frozen(trace), before)
        self.assertEqual(world, WORLD[:1])


class DeskErrorTests(unittest.TestCase):

    def test_no_programs(self):
        for bad in ANY_VALUES + (list(BOX), BOX + (1,), WORLD, a_desk()):
            for got in (outcome(Desk, bad), outcome(Desk, program=bad)):
                self.assertEqual(got[:2], ("raised", "BadProgram"))
                self.assertIs(got[2], bad)

    def test_programs_with_a_fault(self):
        for body in (("name", "y"), ("call", "f", ()), ("call", "g", ())):
            program = program_of(body)
            got = outcome(Desk, program)
            self.assertEqual(got[:2], ("raised", "BadChecked"))
            self.assertIs(got[2], program)

    def test_no_deeds(self):
        desk = Desk(BOX)
        self.assertEqual(desk.do(("box", (1,)))[0], ("value", ("Box", (("cell", 0),))))
        desk.do(("box", (("of", 0),)))
        self.assertEqual(desk.mark(), 0)
        for bad in BAD_DEEDS + ANY_VALUES + (WORLD, desk, (desk,), ("box", (desk,)), (desk, (1,)), ("box", (("of", desk),)),
                                             ("box", ((desk, 0),)), ("box", (("of", 10 ** 30),))):
            for got in (outcome(desk.do, bad), outcome(desk.do, deed=bad)):
                self.assertEqual(got[:2], ("raised", "BadDeed"), bad)
                self.assertIs(got[2], bad)
        # Nothing has changed.
        self.assertEqual(desk.world(), (("box", (1,)), ("box", (("of", 0),))))
        self.assertEqual(desk.do(("open", (("of", 0),))), (("value", 2), 4, ((0, 3),), ()))
        self.assertEqual(desk.mark(), 1)

    def test_a_deed_is_one_behind_all_others(self):
        for many in range(4):
            desk = Desk(BOX)
            for _ in range(many):
                desk.do(("box", (1,)))
            for k in range(-1, 6):
                got = outcome(desk.do, ("open", (("of", k),)))
                self.assertEqual(got[0], "returned" if 0 <= k < many else "raised")
                if got[0] == "returned":
                    desk.undo()
                self.assertEqual(desk.world(), (("box", (1,)),) * many)

    def test_a_deed_that_uses_what_was_undone(self):
        desk = Desk(BOX)
        desk.do(WORLD[0])
        desk.undo()
        self.assertEqual(outcome(desk.do, WORLD[1]), ("raised", "BadDeed", WORLD[1]))
        self.assertEqual(desk.world(), ())

    def test_no_marks(self):
        desk = Desk(BOX)
        self.assertEqual(outcome(desk.back, 0), ("raised", "BadNumber", 0))
        for deed in WORLD:
            desk.mark()
            desk.do(deed)
        for bad in (4, 5, -1, -4, 10 ** 30, True, False, None, "0", (0,), [0], {}, (), desk, a_desk(), (desk,)) + ANY_VALUES:
            if type(bad) is int and 0 <= bad < 4:
                continue
            for got in (outcome(desk.back, bad), outcome(desk.back, mark=bad)):
                self.assertEqual(got[:2], ("raised", "BadNumber"))
                self.assertIs(got[2], bad)
        self.assertEqual(desk.world(), WORLD)
        self.assertEqual(desk.steps(), sum(steps(BOX, WORLD)))
        self.assertEqual(desk.mark(), 4)


def with_desk(value, desk):
    """All values that come of a value when one part of it, or the whole, is replaced by the desk."""
    found = [desk]
    if isinstance(value, tuple):
        for at, part in enumerate(value):
            found.extend(value[:at] + (changed,) + value[at + 1:] for changed in with_desk(part, desk))
    return found


class AnyValueTests(unittest.TestCase):
    """A desk is a value that is of no kind that is asked for."""

    def assert_raised(self, name, thing, function, *arguments):
        got = outcome(function, *arguments)
        self.assertEqual(got[:2], ("raised", name))
        self.assertIs(got[2], thing)

    def test_programs(self):
        desk = Desk(BOX)
        for program in (BOX, read_program("(def f (x y) (case (T x) ((T a) (let b 1 (if < a (- b 1) (f x y) (force (delay 2)))))))")):
            for thing in with_desk(program, desk) + [program + (desk,), (desk,) + program]:
                self.assertIs(is_program(thing), False)
                self.assert_raised("BadProgram", thing, program_text, thing)
                self.assert_raised("BadProgram", thing, fault, thing)
                self.assert_raised("BadProgram", thing, is_world, thing, ())
                self.assert_raised("BadProgram", thing, Desk, thing)
                self.assertIs(is_kind_program("queue", thing), False)
        for thing in (desk, (desk,), [desk]):
            self.assert_raised("BadText", thing, read_program, thing)

    def test_worlds(self):
        desk = Desk(BOX)
        for thing in with_desk(WORLD, desk) + [WORLD + (desk,), (desk,) + WORLD]:
            self.assertIs(is_world(BOX, thing), False)
            for function in (traces, steps):
                self.assert_raised("BadWorld", thing, function, BOX, thing)
            self.assert_raised("BadWorld", thing, line, BOX, thing, 0)
            self.assert_raised("BadWorld", thing, is_part, BOX, thing, ())
            self.assert_raised("BadWorld", thing, judge_charge, BOX, thing, 5)

    def test_parts_and_certificates(self):
        desk = Desk(BOX)
        for part in ((0, 1), (0,), ()):
            for thing in with_desk(part, desk) + [part + (desk,), (desk,) + part]:
                self.assertIs(is_part(BOX, WORLD, thing), False)
        world = WORLD[:3]
        for c, good in ((5, ("book", ((0, 0, 2), (1, 0, 1)))), (4, ("lot", (0,))), (3, ("own", 1))):
            self.assertIs(charge_holds(BOX, world, c, good), True)
            for thing in with_desk(good, desk) + [good + (desk,), (desk,) + good, (good[0], (desk,))]:
                self.assertIs(charge_holds(BOX, world, c, thing), False)
        for k in (desk, (desk,)):
            self.assert_raised("BadNumber", k, line, BOX, WORLD, k)
            self.assert_raised("BadNumber", k, judge_charge, BOX, WORLD, k)
            self.assert_raised("BadNumber", k, charge_holds, BOX, WORLD, k, 1)

    def test_kinds(self):
        desk = Desk(TWO)
        world = (("empty", ()), ("put", (("of", 0), 7)), ("first", (("of", 1),)))
        for thing in with_desk(world, desk) + [world + (desk,), (desk,) + world]:
            self.assertIs(is_kind_world("queue", thing), False)
            self.assert_raised("BadWorld", thing, meanings, "queue", thing)
            self.assert_raised("BadWorld", thing, judge_kind, "queue", TWO, thing)
            self.assert_raised("BadWorld", thing, branched, "queue", thing, 0, 0)
            self.assert_raised("BadWorld", thing, keeps, "queue", TWO, thing, ("each", 9))
        for thing in with_desk(("right",), desk) + with_desk(("wrong", 0), desk) + [("right", desk), (desk, desk)]:
            self.assertIs(kind_holds("queue", TWO, world, thing), False)
        for thing in (desk, (desk,), [desk]):
            self.assert_raised("BadKind", thing, is_kind_program, thing, TWO)
            self.assert_raised("BadKind", thing, is_kind_world, thing, world)
            self.assert_raised("BadKind", thing, meanings, thing, world)
            self.assert_raised("BadKind", thing, judge_kind, thing, TWO, world)
            self.assert_raised("BadKind", thing, keeps, thing, TWO, world, ("each", 9))
            self.assert_raised("BadKind", thing, branched, thing, world, 0, 0)
            self.assert_raised("BadProgram", thing, judge_kind, "queue", thing, world)
            self.assert_raised("BadProgram", thing, kind_holds, "queue", thing, world, ("right",))
            self.assert_raised("BadProgram", thing, keeps, "queue", thing, world, ("each", 9))

    def test_the_shelf_and_what_is_made(self):
        desk = Desk(TWO)
        for thing in (desk, (desk,), [desk]):
            for function in (shelf, kind_of, promise):
                self.assert_raised("BadName", thing, function, thing)
            self.assert_raised("BadNumber", thing, slow_world, thing)
            self.assert_raised("BadNumber", thing, branched, "queue", (("empty", ()),), thing, 0)
            self.assert_raised("BadNumber", thing, branched, "queue", (("empty", ()),), 0, thing)
        for thing in with_desk(("held", 5), desk) + [("held", 5, desk), (desk, "held", 5), (desk, desk)]:
            self.assert_raised("BadPromise", thing, keeps, "queue", TWO, (), thing)

    def test_no_function_changes_a_desk(self):
        desk = Desk(BOX)
        for deed in WORLD[:2]:
            desk.do(deed)
        self.assertEqual(desk.mark(), 0)
        for function in (is_program, program_text, read_program, fault, Desk, shelf, kind_of, promise, slow_world):
            for value in (desk, (desk,), [desk, {"f": desk}]):
                outcome(function, value)
        for thing in (desk, (("open", (desk,)),), ("book", ((desk, 0, 1),))):
            outcome(is_world, BOX, thing)
            outcome(charge_holds, BOX, WORLD, 5, thing)
            outcome(desk.do, thing)
            outcome(desk.back, thing)
        self.assertEqual(desk.world(), WORLD[:2])
        self.assertEqual(desk.do(WORLD[2]), traces(BOX, WORLD)[2])
        self.assertEqual(desk.mark(), 1)

    def test_a_copy_of_a_desk_is_another_one(self):
        desk = Desk(BOX)
        self.assertIs(copied(desk) == desk, False)


if __name__ == "__main__":
    unittest.main()
