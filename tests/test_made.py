"""[8.1] Slow worlds, [8.2] branches."""

import unittest

from debtsheld.kinds import is_kind_world, judge_kind, meanings
from debtsheld.made import branched, slow_world
from debtsheld.shelf import keeps, kind_of, names, shelf
from debtsheld.worlds import outcomes, steps
from tests.plain import chances
from tests.plain_kinds import KINDS, kind_world, lively_world
from tests.samples import ANY_VALUES, a_desk, copied, frozen, outcome

WORLD = (("empty", ()), ("put", (("of", 0), 7)), ("put", (("of", 1), 8)), ("first", (("of", 2),)), ("rest", (("of", 2),)),
         ("first", (("of", 0),)))
HEAP = (("empty", ()), ("insert", (("of", 0), 2)), ("merge", (("of", 1), ("of", 1))), ("merge", (("of", 1), ("of", 2))),
        ("least", (("of", 2),)), ("without", (("of", 2),)), ("insert", (("of", 1), 2)))
ANSWERING = ("first", "last", "head", "look", "least")
NO_POSITIONS = (-1, 6, 7, 10 ** 30, True, False, None, "1", "", (1,), [1], {}, {1: 1}, (), a_desk(), ("of", 1))


class SlowTests(unittest.TestCase):

    def assert_slow(self, n):
        world = slow_world(n)
        self.assertIs(is_kind_world("queue", world), True)
        self.assertLessEqual(len(world), 3 * n)
        told = outcomes(shelf("eager"), world)
        self.assertNotIn(("long",), told)
        self.assertGreaterEqual(sum(steps(shelf("eager"), world)), 10 * n * n)
        return world

    def test_within_the_limits(self):
        for n in range(1, 13):
            world = self.assert_slow(n)
            most = max(len(meant[1]) for meant in meanings("queue", world) if meant[0] == "version")
            self.assertLessEqual(most, 60)
            self.assertEqual(slow_world(n), world)
            self.assertEqual(slow_world(n=n), world)
            for name, charge in (("banker", 64), ("real", 40)):
                self.assertLessEqual(sum(steps(shelf(name), world)), charge * len(world))
            for name in ("eager", "banker", "real"):
                self.assertEqual(judge_kind("queue", shelf(name), world), ("right",))
            self.assertIs(keeps("queue", shelf("banker"), world, ("held", 64)), True)
            self.assertIs(keeps("queue", shelf("real"), world, ("each", 40)), True)

    def test_somewhat_beyond_the_limits(self):
        for n in (13, 20, 40, 120):
            self.assert_slow(n)

    def test_700_items(self):
        # All deeds alone would take long; those that repeat themselves take the same steps each time.
        world = slow_world(700)
        self.assertLessEqual(len(world), 2100)
        self.assertEqual(len(set(world[701:])), 1)
        counts = steps(shelf("eager"), world[:703])
        self.assertEqual(counts[701], counts[702])
        self.assertLess(counts[701], 5000)
        self.assertGreaterEqual(sum(counts[:701]) + counts[701] * (len(world) - 701), 10 * 700 * 700)

    def test_no_numbers(self):
        for bad in (0, -1, -10 ** 30, True, False, None, "1", "", (1,), [1], {}, {1: 1}, a_desk()) + ANY_VALUES:
            if type(bad) is int and bad >= 1:
                continue
            for got in (outcome(slow_world, bad), outcome(slow_world, n=bad)):
                self.assertEqual(got[:2], ("raised", "BadNumber"))
                self.assertIs(got[2], bad)


def plain_copies(world, k):
    return [deed for deed in world if any(argument == ("of", k) for argument in deed[1])]


class BranchedTests(unittest.TestCase):

    def test_copies_in_their_order(self):
        self.assertEqual(branched("queue", WORLD[:3], 1, 2), WORLD[:3] + (WORLD[2], WORLD[2]))
        self.assertEqual(branched("queue", WORLD, 2, 1), WORLD + WORLD[3:5])
        self.assertEqual(branched("queue", WORLD, 2, 3), WORLD + WORLD[3:5] * 3)
        self.assertEqual(branched("queue", WORLD, 0, 2), WORLD + (WORLD[1], WORLD[5]) * 2)

    def test_no_copies(self):
        for k in (0, 1, 2, 4):
            self.assertEqual(branched("queue", WORLD, k, 0), WORLD)
        for m in (0, 1, 3, 50):
            self.assertEqual(branched("queue", WORLD, 4, m), WORLD)

    def test_only_what_uses_it_directly(self):
        world = WORLD[:3] + (("rest", (("of", 2),)), ("rest", (("of", 3),)), ("put", (("of", 4), 2)))
        self.assertEqual(branched("queue", world, 1, 1), world + (world[2],))
        # An integer is no position of a deed that is used.
        world = (("empty", ()), ("put", (("of", 0), 1)), ("put", (("of", 0), 0)), ("put", (("of", 1), 0)))
        self.assertEqual(branched("queue", world, 0, 1), world + world[1:3])
        self.assertEqual(branched("queue", world, 1, 1), world + world[3:])

    def test_a_deed_that_uses_it_twice_is_copied_once(self):
        self.assertEqual(branched("heap", HEAP, 1, 1), HEAP + (HEAP[2], HEAP[3], HEAP[6]))
        self.assertEqual(branched("heap", HEAP, 1, 2), HEAP + (HEAP[2], HEAP[3], HEAP[6]) * 2)
        self.assertEqual(branched("heap", HEAP, 2, 1), HEAP + HEAP[3:6])

    def test_all_functions_that_return_versions(self):
        worlds = {
            "queue": (("empty", ()), ("put", (("of", 0), 1)), ("rest", (("of", 1),)), ("rest", (("of", 2),))),
            "deque": (("empty", ()), ("front", (1, ("of", 0))), ("back", (("of", 1), 1)), ("rest", (("of", 2),)), ("init", (("of", 3),))),
            "list": (("empty", ()), ("cons", (1, ("of", 0))), ("set", (("of", 1), 0, 1)), ("set", (("of", 2), 5, 1)),
                     ("tail", (("of", 3),))),
            "joined": (("empty", ()), ("one", (3,)), ("join", (("of", 0), ("of", 1))), ("rest", (("of", 2),))),
            "heap": (("empty", ()), ("insert", (("of", 0), 1)), ("without", (("of", 1),)), ("merge", (("of", 1), ("of", 2)))),
        }
        for kind, world in worlds.items():
            for k in range(len(world)):
                self.assertEqual(branched(kind, world, k, 2), world + tuple(plain_copies(world, k)) * 2)

    def test_each_kind(self):
        for kind in KINDS:
            met = 0
            for chance in chances(0, 30):
                world = kind_world(kind, chance, 12)
                for k, (f, _) in enumerate(world):
                    m = chance.randrange(4)
                    if f in ANSWERING:
                        got = outcome(branched, kind, world, k, m)
                        self.assertEqual(got, ("raised", "BadNumber", k))
                        continue
                    made = branched(kind, world, k, m)
                    copies = plain_copies(world, k)
                    self.assertEqual(made, world + tuple(copies) * m)
                    self.assertIs(is_kind_world(kind, made), True)
                    met += bool(copies) and m > 1
                    self.assertEqual(meanings(kind, made)[:len(world)], meanings(kind, world))
            self.assertGreater(met, 20, kind)

    def test_copies_have_the_same_meaning(self):
        for name in names():
            kind = kind_of(name)
            for chance in chances(60, 8):
                world = lively_world(kind, chance, 12)
                versions = [k for k, (f, _) in enumerate(world) if f not in ANSWERING]
                k = chance.choice(versions)
                made = branched(kind, world, k, 2)
                self.assertEqual(judge_kind(kind, shelf(name), made), ("right",))
                copied_from = [at for at, deed in enumerate(world) if deed in plain_copies(world, k)] * 2
                for at, source in enumerate(copied_from):
                    self.assertEqual(meanings(kind, made)[len(world) + at], meanings(kind, world)[source])

    def test_no_positions_of_versions(self):
        for bad in NO_POSITIONS + (3, 5):
            for m in (0, 1, "no", -1):
                for got in (outcome(branched, "queue", WORLD, bad, m), outcome(branched, kind="queue", world=WORLD, k=bad, m=m)):
                    self.assertEqual(got[:2], ("raised", "BadNumber"))
                    self.assertIs(got[2], bad)
        self.assertEqual(outcome(branched, "queue", (), 0, 0), ("raised", "BadNumber", 0))
        # Whether it is stuck or none does not matter: its function returns a version.
        world = (("empty", ()), ("rest", (("of", 0),)), ("put", (("of", 1), 5)), ("first", (("of", 2),)))
        self.assertEqual(branched("queue", world, 1, 2), world + (world[2],) * 2)
        self.assertEqual(branched("queue", world, 2, 1), world + (world[3],))

    def test_no_numbers_of_copies(self):
        for bad in (-1, -10 ** 30, True, False, None, "1", (1,), [1], {}, (), a_desk()) + ANY_VALUES:
            if type(bad) is int and bad >= 0:
                continue
            got = outcome(branched, "queue", WORLD, 2, bad)
            self.assertEqual(got[:2], ("raised", "BadNumber"))
            self.assertIs(got[2], bad)

    def test_errors_in_their_order(self):
        for bad in ANY_VALUES + ("stack", a_desk()):
            got = outcome(branched, bad, 1, True, True)
            self.assertEqual(got[:2], ("raised", "BadKind"))
            self.assertIs(got[2], bad)
            if bad != ():
                got = outcome(branched, "queue", bad, True, None)
                self.assertEqual(got[:2], ("raised", "BadWorld"))
                self.assertIs(got[2], bad)
        for kind in KINDS:
            if kind != "queue":
                got = outcome(branched, kind, WORLD, True, True)
                self.assertEqual(got[:2], ("raised", "BadWorld"))
                self.assertIs(got[2], WORLD)

    def test_the_world_does_not_change(self):
        before = frozen(WORLD)
        branched("queue", copied(WORLD), 1, 3)
        branched("queue", WORLD, 1, 3)
        self.assertEqual(frozen(WORLD), before)


if __name__ == "__main__":
    unittest.main()
