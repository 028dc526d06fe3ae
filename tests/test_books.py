"""[5.1] Roots and who can pay, [5.2] books, [5.3] certificates, [5.4] the bound."""

import itertools
import unittest

from debtsheld.books import charge_holds, judge_charge, least_charge, payers, roots
from debtsheld.programs import read_program
from debtsheld.worlds import line, steps, traces
from tests.plain import chances, plain_machine, some_line, some_program, some_world, with_much_room
from tests.samples import ANY_VALUES, BOX, BOXES, STREAMS, a_desk, boxes_world, outcome, program_of, streams_world

WORLD = (("box", (4,)), ("open", (("of", 0),)), ("open", (("of", 0),)))
FAULTY = program_of(("name", "y"))


class Plain:
    """Parts 5.1 to 5.3 by their words."""

    def __init__(self, program, world):
        machine = plain_machine(program, world)
        self.roots = tuple(machine.roots)
        self.own = [trace[1] for trace in machine.traces]
        self.works = {cell: work for trace in machine.traces for cell, work in trace[2]}
        lines = [some_line(world, k) for k in range(len(world))]
        self.able = {cell: [j for j in range(len(world)) if j in lines[k] and machine.roots[cell] in lines[j]]
                     for k, trace in enumerate(machine.traces) for cell, _ in trace[2]}

    def pays(self, payments, c):
        """Whether these payments, of right form, are a book."""
        if list(payments) != sorted(payments) or len({(j, cell) for j, cell, _ in payments}) != len(payments):
            return False
        if any(cell not in self.able or j not in self.able[cell] or n < 1 for j, cell, n in payments):
            return False
        if any(sum(n for _, other, n in payments if other == cell) != work for cell, work in self.works.items()):
            return False
        return all(own + sum(n for i, _, n in payments if i == j) <= c for j, own in enumerate(self.own))

    def is_lot(self, cells, c):
        able = {j for cell in cells for j in self.able[cell]}
        return sum(self.works[cell] for cell in cells) > sum(max(0, c - self.own[j]) for j in able)

    def lots(self, c):
        return [cells for size in range(1, len(self.works) + 1)
                for cells in itertools.combinations(sorted(self.works), size) if self.is_lot(cells, c)]

    def all_payments(self):
        """All tuples in which each cell is paid by those who can pay for it, whatever the charge; None if too many."""
        found = [()]
        for cell, work in sorted(self.works.items()):
            ways = [way for way in itertools.product(range(work + 1), repeat=len(self.able[cell])) if sum(way) == work]
            if len(found) * len(ways) > 60:
                return None
            found = [rest + tuple((j, cell, n) for j, n in zip(self.able[cell], way) if n) for rest in found
                     for way in ways]
        return [tuple(sorted(payments)) for payments in found]

    def least(self):
        """The least charge, from the lots alone."""
        c = max(self.own, default=0)
        while self.lots(c):
            c += 1
        return c


def small_worlds(first, many, most_cells=7):
    """Worlds with few cells that are worked out, with what is plain of them."""
    found = []
    for chance in chances(first, many):
        world = boxes_world(chance, 9)
        plain = Plain(BOXES, world)
        if 1 <= len(plain.works) <= most_cells:
            found.append((BOXES, world, plain))
    return found


class RootTests(unittest.TestCase):

    def test_roots(self):
        world = (("upto", (3,)), ("append", (("of", 0), ("of", 0))), ("total", (("of", 1),)), ("later", (("of", 0),)),
                 ("ask", (("of", 3),)))
        # While the front items are asked for, each cell of the first stream makes one that follows it, with its root,
        # and likewise each cell of the second stream.
        self.assertEqual([trace[3] for trace in traces(STREAMS, world)], [(0,), (1,), (2, 3, 4, 5, 6, 7), (8,), ()])
        self.assertEqual(roots(STREAMS, world), (0, 1, 0, 1, 0, 1, 0, 1, 3))

    def test_the_innermost_cell_decides(self):
        program = read_program("(def one () (delay (delay 1)))"
                               "(def two (c) (delay (P (delay 2) (force (force c)) (delay 3))))"
                               "(def ask (c) (P (delay 4) (force c) (delay 5)))")
        world = (("one", ()), ("two", (("of", 0),)), ("ask", (("of", 1),)), ("ask", (("of", 1),)))
        # made: 0 in deed 0; 1 in deed 1; 2 (delay 4); 3 (delay 2) in cell 1; 4 in cell 0; 5 (delay 3) in cell 1; ..
        self.assertEqual(roots(program, world), (0, 1, 2, 1, 0, 1, 2, 3, 3))
        self.assertEqual(payers(program, world), ((0, (0, 1, 2)), (1, (1, 2)), (4, (0, 1, 2))))

    def test_cells_made_before_it_gets_stuck(self):
        program = read_program("(def bad () (delay (P (delay 1) (force 2)))) (def ask (c) (force c)) (def one () (delay 1))")
        world = (("bad", ()), ("one", ()), ("ask", (("of", 0),)), ("ask", (("of", 0),)), ("ask", (("of", 1),)))
        self.assertEqual(roots(program, world), (0, 1, 0, 0))
        self.assertEqual(payers(program, world), ((1, (1, 4)),))

    def test_payers(self):
        self.assertEqual(payers(BOX, WORLD), ((0, (0, 1)),))
        self.assertEqual(payers(BOX, ()), ())
        self.assertEqual(roots(BOX, ()), ())
        # Those behind the root on the way to the deed that asks, not those on another branch.
        world = (("box", (1,)), ("pick", (("of", 0), 1)), ("pick", (("of", 0), 2)), ("pick", (("of", 1), 3)),
                 ("ask", (("of", 3),)), ("ask", (("of", 2),)), ("box", (5,)), ("use", (("of", 6), ("of", 1))))
        self.assertEqual(payers(BOXES, world), ((0, (0, 1, 3, 4)), (1, (6, 7))))

    def test_a_deed_can_pay_only_behind_the_root(self):
        world = (("box", (1,)), ("more", (("of", 0),)), ("ask", (("of", 1),)))
        self.assertEqual(payers(BOXES, world), ((0, (0, 1, 2)), (1, (1, 2))))

    def test_against_plain_ones(self):
        met = 0
        for chance in chances(0, 150):
            world = streams_world(chance, 12)
            plain = with_much_room_plain(STREAMS, world)
            self.assertEqual(roots(STREAMS, world), plain.roots)
            expected = tuple((cell, tuple(plain.able[cell])) for cell in sorted(plain.able))
            self.assertEqual(payers(STREAMS, world), expected)
            for k, trace in enumerate(traces(STREAMS, world)):
                for cell, _ in trace[2]:
                    self.assertIn(plain.roots[cell], line(STREAMS, world, k))
                    met += plain.roots[cell] != k
        self.assertGreater(met, 100)


def with_much_room_plain(program, world):
    told = []
    with_much_room(lambda: told.append(Plain(program, world)))
    return told[0]


class CertificateTests(unittest.TestCase):

    def test_books_and_none(self):
        for thing, expected in (
            (((0, 0, 2), (1, 0, 1)), True), (((0, 0, 1), (1, 0, 1)), False), (((0, 0, 3),), True),
            (((0, 0, 1), (0, 0, 1), (1, 0, 1)), False), (((0, 0, 2), (0, 0, 1)), False), (((1, 0, 1), (0, 0, 2)), False),
            (((1, 0, 1),), False), (((0, 0, 3), (1, 0, 0)), False), (((0, 0, 4), (1, 0, -1)), False),
            (((0, 0, 2), (2, 0, 1)), False), (((2, 0, 3),), False), (((0, 1, 3),), False), (((0, 0, 2), (1, 1, 1)), False),
            (((0, 0, 2), (1, 0, True)), False), (((False, 0, 3),), False), (((0, False, 3),), False),
            (((0, 0, 2), (True, 0, 1)), False), (((0, 0, 2), [1, 0, 1]), False), ([(0, 0, 3)], False), ((), False),
            ((0, 0, 3), False), (((0, 0, 3), ()), False), (((0, 0),), False), (((0, 0, 3, 0),), False),
            (((0, 0, "3"),), False), (((0, 0, None),), False), (((0, "0", 3),), False), ((([], 0, 3),), False),
            ((((0,), 0, 3),), False), (((0, [], 3),), False), (((0, {}, 3),), False), (((-1, 0, 3),), False),
            (((0, -1, 3),), False), (((3, 0, 3),), False), (((0, 0, 3), (3, 0, 1)), False), (None, False), ("", False),
            ({}, False), (3, False), (a_desk(), False), ((a_desk(),), False), (((10 ** 30, 0, 3),), False),
        ):
            self.assertIs(charge_holds(BOX, WORLD, 5, ("book", thing)), expected, thing)
            self.assertIs(charge_holds(BOX, WORLD, 4, ("book", thing)), False, thing)
            self.assertIs(charge_holds(BOX, WORLD, 6, ("book", thing)), expected)
        self.assertIs(charge_holds(BOX, WORLD, 5, ("book", ((1, 0, 3),))), False)
        self.assertIs(charge_holds(BOX, WORLD, 7, ("book", ((1, 0, 3),))), True)

    def test_owns_and_none(self):
        for c, thing, expected in (
            (3, 1, True), (3, 2, True), (3, 0, False), (1, 0, True), (2, 0, False), (0, 0, True), (4, 1, False),
            (3, 3, False), (0, -1, False), (0, True, False), (0, False, False), (0, None, False), (0, "0", False),
            (0, (0,), False), (0, [0], False), (0, {}, False), (0, 10 ** 30, False), (0, a_desk(), False),
        ):
            self.assertIs(charge_holds(BOX, WORLD, c, ("own", thing)), expected, (c, thing))

    def test_lots_and_none(self):
        for c, thing, expected in (
            (4, (0,), True), (5, (0,), False), (3, (0,), True), (0, (0,), True), (4, (0, 0), False), (4, (), False),
            (4, [0], False), (4, (False,), False), (4, (1,), False), (4, (0, 1), False), (4, (-1, 0), False),
            (4, 0, False), (4, None, False), (4, "0", False), (4, ("0",), False), (4, (None,), False), (4, ([],), False),
            (4, ({},), False), (4, ((0,),), False), (4, {}, False), (4, {0: 1}, False), (4, a_desk(), False),
            (4, (a_desk(),), False),
        ):
            self.assertIs(charge_holds(BOX, WORLD, c, ("lot", thing)), expected, (c, thing))
        # A deed counts once, whichever of the cells it can pay for, and a deed with too many own steps counts 0.
        world = (("box", (1,)), ("more", (("of", 0),)), ("ask", (("of", 1),)))
        self.assertEqual(traces(BOXES, world)[2][1:3], (2, ((0, 1), (1, 4))))
        for c, thing, expected in ((2, (0, 1), True), (2, (0,), False), (2, (1,), True), (3, (0, 1), False),
                                   (3, (1,), True), (1, (0, 1), True), (1, (0,), True), (1, (1, 0), False)):
            self.assertIs(charge_holds(BOXES, world, c, ("lot", thing)), expected, (c, thing))

    def test_no_certificate_of_any_form(self):
        book, lot = ("book", ((0, 0, 2), (1, 0, 1))), ("lot", (0,))
        self.assertIs(charge_holds(BOX, WORLD, 5, book), True)
        self.assertIs(charge_holds(BOX, WORLD, 4, lot), True)
        for thing in ANY_VALUES + (list(book), book + (1,), book[:1], (book[1], "book"), ("Book", book[1]), (book,),
                                   ("lot", book[1]), ("own", book[1]), (["book"], book[1]), ({}, book[1]),
                                   (("book",), book[1]), (1, book[1]), book[1], "book", "lot", ("lot",), ("own",), lot[1]):
            for c in (0, 3, 4, 5, 9):
                self.assertIs(charge_holds(BOX, WORLD, c, thing), False, thing)
        self.assertIs(charge_holds(BOX, WORLD, 4, list(lot)), False)
        self.assertIs(charge_holds(BOX, WORLD, 5, lot), False)
        self.assertIs(charge_holds(BOX, WORLD, 4, book), False)

    def test_the_world_without_deeds(self):
        self.assertEqual(least_charge(BOX, ()), 0)
        for c in (0, 1, 10 ** 9):
            self.assertEqual(judge_charge(BOX, (), c), ("book", ()))
            self.assertIs(charge_holds(BOX, (), c, ("book", ())), True)
            for thing in (("own", 0), ("lot", ()), ("lot", (0,)), ("book", ((0, 0, 1),)), ("book", []), ("book", None)):
                self.assertIs(charge_holds(BOX, (), c, thing), False)

    def test_a_world_without_cells(self):
        world = (("box", (1,)), ("box", (2,)))
        self.assertEqual(least_charge(BOX, world), 2)
        self.assertEqual(judge_charge(BOX, world, 2), ("book", ()))
        self.assertEqual(judge_charge(BOX, world, 1)[0], "own")
        for c, expected in ((2, True), (1, False)):
            self.assertIs(charge_holds(BOX, world, c, ("book", ())), expected)

    def test_the_least_charge_and_the_one_below(self):
        self.assertEqual(least_charge(BOX, WORLD), 5)
        self.assertEqual(judge_charge(BOX, WORLD, 5)[0], "book")
        self.assertEqual(judge_charge(BOX, WORLD, 4), ("lot", (0,)))
        kinds = set()
        for program, world, plain in small_worlds(0, 250):
            c = least_charge(program, world)
            self.assertEqual(c, plain.least())
            if c > 0:
                kinds.add(judge_charge(program, world, c - 1)[0])
                self.assertNotEqual(judge_charge(program, world, c - 1)[0], "book")
            self.assertEqual(judge_charge(program, world, c)[0], "book")
            self.assertEqual(judge_charge(program, world, 10 ** 9)[0], "book")
        self.assertEqual(kinds, {"own", "lot"})

    def test_against_all_books_and_all_lots(self):
        met = {"book": 0, "own": 0, "lot": 0, "all": 0}
        for program, world, plain in small_worlds(1000, 200, 4):
            lowest = max(plain.own, default=0)
            all_payments = plain.all_payments()
            met["all"] += all_payments is not None
            for c in sorted({0, max(0, lowest - 1), lowest, lowest + 1, plain.least() - 1, plain.least(), 20} - {-1}):
                owns, lots = [j for j, own in enumerate(plain.own) if own > c], plain.lots(c)
                word, thing = judge_charge(program, world, c)
                met[word] += 1
                self.assertIs(charge_holds(program, world, c, (word, thing)), True)
                # Exactly one of the two: a book, or what shows that there is none.
                self.assertEqual(word == "book", not owns and not lots)
                right = {"book": word == "book" and plain.pays(thing, c), "own": thing in owns, "lot": thing in lots}
                self.assertIs(right[word], True, (world, c, thing))
                for j in range(-1, len(world) + 1):
                    self.assertIs(charge_holds(program, world, c, ("own", j)), j in owns)
                for size in range(len(plain.works) + 1):
                    for cells in itertools.combinations(sorted(plain.works), size):
                        self.assertIs(charge_holds(program, world, c, ("lot", cells)), cells in lots)
                if all_payments is None:
                    continue
                books = [payments for payments in all_payments if plain.pays(payments, c)]
                self.assertEqual(word == "book", bool(books))
                for payments in all_payments:
                    self.assertIs(charge_holds(program, world, c, ("book", payments)), payments in books)
                if word == "book":
                    self.assertIn(thing, books)
        self.assertGreater(min(met.values()), 20, met)

    def test_books_that_are_changed_a_little(self):
        met = {True: 0, False: 0}
        for chance, (program, world, plain) in zip(chances(0, 400), small_worlds(2000, 250)):
            c = least_charge(program, world) + chance.randrange(3)
            payments = judge_charge(program, world, c)[1]
            for _ in range(10):
                changed = [list(payment) for payment in payments] + [[0, 0, 1]] * chance.choice((0, 0, 1))
                for _ in range(chance.randrange(1, 3)):
                    if changed:
                        chance.choice(changed)[chance.randrange(3)] += chance.choice((-1, 1))
                if len(changed) > 1 and chance.random() < 0.2:
                    one, other = chance.sample(changed, 2)
                    one[2], other[2] = one[2] + 1, other[2] - 1
                changed = [tuple(payment) for payment in changed]
                changed = tuple(sorted(changed) if chance.random() < 0.8 else changed)
                expected = plain.pays(changed, c)
                self.assertIs(charge_holds(program, world, c, ("book", changed)), expected, (world, c, changed))
                met[expected] += 1
        self.assertGreater(min(met.values()), 50, met)

    def test_streams_by_chance(self):
        met = {"book": 0, "own": 0, "lot": 0}
        for chance in chances(0, 120):
            world = streams_world(chance, 14)
            plain = with_much_room_plain(STREAMS, world)
            c = least_charge(STREAMS, world)
            for charge in {max(0, c - 1), c, c + 1, chance.randrange(c + 2)}:
                word, thing = judge_charge(STREAMS, world, charge)
                met[word] += 1
                self.assertEqual(word == "book", charge >= c)
                self.assertIs(charge_holds(STREAMS, world, charge, (word, thing)), True)
                right = {"book": lambda: plain.pays(thing, charge), "own": lambda: plain.own[thing] > charge,
                         "lot": lambda: thing == tuple(sorted(set(thing))) and plain.is_lot(thing, charge)}
                self.assertTrue(right[word]())
        self.assertGreater(min(met.values()), 10, met)


class BoundTests(unittest.TestCase):

    def test_steps_of_parts(self):
        tight = 0
        for program, world, _ in small_worlds(3000, 120):
            c = least_charge(program, world)
            many = steps(program, world)
            lines = [set(line(program, world, k)) for k in range(len(world))]
            for size in range(len(world) + 1):
                for part in itertools.combinations(range(len(world)), size):
                    if all(lines[k] <= set(part) for k in part):
                        self.assertLessEqual(sum(many[k] for k in part), c * len(part))
                        tight += size > 0 and sum(many[k] for k in part) == c * len(part)
        self.assertGreater(tight, 5)


class ErrorTests(unittest.TestCase):

    def test_errors_in_their_order(self):
        for function, more in ((roots, ()), (payers, ()), (least_charge, ()), (judge_charge, ("no",)),
                               (charge_holds, ("no", "thing"))):
            for bad in ANY_VALUES:
                got = outcome(function, bad, "no", *more)
                self.assertEqual(got[:2], ("raised", "BadProgram"))
                self.assertIs(got[2], bad)
            got = outcome(function, FAULTY, "no", *more)
            self.assertEqual(got[:2], ("raised", "BadChecked"))
            self.assertIs(got[2], FAULTY)
            for bad in ANY_VALUES + (list(WORLD), WORLD[1:], WORLD + (1,), (("box", (True,)),)):
                if bad == ():
                    continue
                got = outcome(function, BOX, bad, *more)
                self.assertEqual(got[:2], ("raised", "BadWorld"))
                self.assertIs(got[2], bad)

    def test_no_charges(self):
        for c in (-1, -10 ** 30, True, False, None, "5", "", (5,), [5], {}, a_desk(), ()):
            for got in (outcome(judge_charge, BOX, WORLD, c), outcome(charge_holds, BOX, WORLD, c, ("own", 0)),
                        outcome(charge_holds, BOX, WORLD, c, None), outcome(judge_charge, BOX, (), c)):
                self.assertEqual(got[:2], ("raised", "BadNumber"))
                self.assertIs(got[2], c)

    def test_programs_by_chance(self):
        for chance in chances(0, 150):
            program = some_program(chance)
            world = some_world(chance, program, 6)
            machine = []
            with_much_room(lambda: machine.append(plain_machine(program, world)))
            if machine[0] is None:
                continue
            self.assertEqual(roots(program, world), tuple(machine[0].roots))
            c = least_charge(program, world)
            self.assertIs(charge_holds(program, world, c, judge_charge(program, world, c)), True)


if __name__ == "__main__":
    unittest.main()
