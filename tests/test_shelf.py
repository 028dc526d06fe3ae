"""[7.1] The shelf, [7.2] its promises, and what keeps them."""

import itertools
import time
import unittest

from debtsheld.books import judge_charge, least_charge
from debtsheld.checker import is_checked
from debtsheld.kinds import is_kind_program, is_kind_world, judge_kind, kind_holds, meanings
from debtsheld.made import branched, slow_world
from debtsheld.programs import program_text, read_program
from debtsheld.shelf import keeps, kind_of, names, promise, shelf
from debtsheld.worlds import outcomes, steps
from tests.plain import chances, plain_machine, with_much_room
from tests.plain_kinds import KINDS, again_worlds, functions_of, grown, kind_world, lively_world, plain_meanings
from tests.samples import (
    ANY_VALUES, BOX, DEQUE, HEAP, JOINED, LIST, PILE, TWO, WAITING, a_desk, outcome, program_of,
)

LISTED = {
    "banker": ("queue", ("held", 64)),
    "binomial": ("heap", ("held", 1000)),
    "deque": ("deque", ("held", 240)),
    "eager": ("queue", ("line", 31)),
    "joined": ("joined", ("held", 440)),
    "leftist": ("heap", ("log", 80)),
    "real": ("queue", ("each", 40)),
    "skew": ("list", ("log", 60)),
}
EAGER_TEXT = """(def empty () (Q (N) (N)))
(def rev (l a) (case l ((N) a) ((C x t) (rev t (C x a)))))
(def check (f r) (case f ((N) (Q (rev r (N)) (N))) ((C x t) (Q f r))))
(def put (q x) (case q ((Q f r) (check f (C x r)))))
(def first (q) (case q ((Q f r) (case f ((C x t) x)))))
(def rest (q) (case q ((Q f r) (case f ((C x t) (check t r))))))"""
QUEUE = (("empty", ()), ("put", (("of", 0), 7)), ("put", (("of", 1), 8)), ("first", (("of", 2),)), ("rest", (("of", 2),)),
         ("first", (("of", 0),)))
SECONDS = 10


def pairs(world):
    """How often each result is used."""
    used = [argument[1] for _, arguments in world for argument in arguments if isinstance(argument, tuple)]
    return {i: used.count(i) for i in used}


def given_items(kind, world):
    """For each deed the number of the items that it is given."""
    meant = plain_meanings(kind, world)
    counts = []
    for _, arguments in world:
        told = [meant[argument[1]] for argument in arguments if isinstance(argument, tuple)]
        counts.append(sum(len(one[1]) for one in told if one[0] == "version"))
    return counts


def digits(number):
    return len(bin(number)) - 2 if number else 0


def least_number(word, kind, program, world):
    """The least c for which the promise is so for this world, by the words of the document."""
    if word == "held":
        c = least_charge(program, world)
        return max(c, 1)
    machine = []
    with_much_room(lambda: machine.append(plain_machine(program, world)))
    counts = [own + sum(work for _, work in works) for _, own, works, _ in machine[0].traces]
    if word == "line":
        again = any(many > 1 for many in pairs(world).values())
        return 1 if again or not world else max(1, -(-sum(counts) // len(world)))
    shares = [1] * len(world) if word == "each" else [1 + digits(n) for n in given_items(kind, world)]
    return max([1] + [-(-count // share) for count, share in zip(counts, shares)])


class ShelfTests(unittest.TestCase):

    def test_what_is_listed(self):
        self.assertEqual(names(), tuple(sorted(LISTED)))
        self.assertEqual(names(), ("banker", "binomial", "deque", "eager", "joined", "leftist", "real", "skew"))
        for name, (kind, promised) in LISTED.items():
            self.assertEqual(kind_of(name), kind)
            self.assertEqual(promise(name), promised)

    def test_each_program_is_of_its_kind_alone(self):
        for name, (kind, _) in LISTED.items():
            program = shelf(name)
            self.assertIs(is_checked(program), True)
            for other in KINDS:
                self.assertIs(is_kind_program(other, program), other == kind)
            self.assertEqual(shelf(name), program)

    def test_eager_has_the_text_of_the_document(self):
        self.assertEqual(program_text(shelf("eager")), EAGER_TEXT)
        self.assertEqual(shelf("eager"), read_program(EAGER_TEXT))
        self.assertEqual(shelf("eager"), TWO)
        self.assertEqual(len(shelf("eager")), 6)

    def test_the_programs_are_within_the_limits(self):
        for name in names():
            program = shelf(name)
            text = program_text(program)
            self.assertEqual(read_program(text), program)
            self.assertLessEqual(len(program), 60)
            self.assertLessEqual(len(text), 20000)
            brackets = itertools.accumulate({"(": 1, ")": -1}.get(sign, 0) for sign in text)
            self.assertLessEqual(max(brackets), 60)
            counts, depths = zip(*[count_and_depth(body) for _, _, body in program])
            self.assertLessEqual(sum(counts), 1500)
            self.assertLessEqual(max(depths), 20)

    def test_no_names(self):
        for bad in ANY_VALUES + ("Eager", "eager ", "queue", "heap", ("eager",), ["eager"], {"eager": 1}, b"eager",
                                 a_desk(), (a_desk(),), "names", "held"):
            for function in (shelf, kind_of, promise):
                for got in (outcome(function, bad), outcome(function, name=bad)):
                    self.assertEqual(got[:2], ("raised", "BadName"))
                    self.assertIs(got[2], bad)


def count_and_depth(e):
    """How many expressions an expression has, and how deep they are nested."""
    parts = [part for part in e[1:] if isinstance(part, tuple)]
    if e[0] in ("call", "make"):
        parts = e[2]
    if e[0] == "case":
        parts = [e[1]] + [branch[2] for branch in e[2]]
    told = [count_and_depth(part) for part in parts]
    return 1 + sum(count for count, _ in told), 1 + max([depth for _, depth in told], default=0)


class KeptTests(unittest.TestCase):
    """The programs of the shelf have the plain meaning of their kind and keep their promises, at 40 deeds and 60 items."""

    def assert_kept(self, name, world):
        kind, promised = LISTED[name]
        program = shelf(name)
        self.assertLessEqual(len(world), 40)
        self.assertIs(is_kind_world(kind, world), True, world)
        self.assertEqual(judge_kind(kind, program, world), ("right",), (name, world))
        self.assertIs(keeps(kind, program, world, promised), True, (name, world))

    def assert_numbers(self, name, world):
        """What keeps says is so by the numbers, too."""
        kind, promised = LISTED[name]
        program = shelf(name)
        if promised[0] == "held":
            self.assertLessEqual(least_charge(program, world), promised[1], (name, world))
        if promised[0] == "log":
            for count, items in zip(steps(program, world), given_items(kind, world)):
                self.assertLessEqual(count, promised[1] * (1 + digits(items)), (name, world))
        if promised[0] == "each":
            self.assertLessEqual(max(steps(program, world), default=0), promised[1], (name, world))

    def assert_agreed(self, name, world):
        """The outcomes are those that the meanings demand, told by the tests' own words."""
        for meant, told in zip(plain_meanings(LISTED[name][0], world), outcomes(shelf(name), world)):
            if meant[0] == "answer":
                self.assertEqual(told, ("value", meant[1]))
            else:
                self.assertEqual(told[0], "value" if meant[0] == "version" else meant[0])

    def test_elder_versions_used_again_and_again(self):
        for name in names():
            most = 0
            worlds = list(again_worlds(LISTED[name][0], 40))
            for world in worlds[::1 + len(worlds) // 150]:
                self.assertEqual(len(world), 40)
                self.assert_kept(name, world)
                most = max(most, *given_items(LISTED[name][0], world))
            self.assertGreater(most, 25, name)

    def test_24_deeds_used_again_and_again(self):
        for name in ("banker", "binomial", "deque", "joined"):
            for world in list(again_worlds(LISTED[name][0], 24))[::4]:
                self.assert_kept(name, world)

    def test_lively_worlds(self):
        for name in names():
            met = []
            for chance in chances(0, 30):
                world = lively_world(LISTED[name][0], chance)
                self.assert_kept(name, world)
                self.assert_numbers(name, world)
                self.assert_agreed(name, world)
                met.extend(told[0] for told in outcomes(shelf(name), world))
            for word in ("value", "stuck", "none"):
                self.assertGreater(met.count(word), 4, (name, word))
            self.assertNotIn("long", met)

    def test_small_worlds(self):
        for name in names():
            self.assert_kept(name, ())
            for chance in chances(500, 40):
                world = kind_world(LISTED[name][0], chance, 12)
                self.assert_kept(name, world)
                self.assert_agreed(name, world)
                self.assertIs(kind_holds(LISTED[name][0], shelf(name), world, ("right",)), True)

    def test_all_short_worlds(self):
        """All ways to go on from the start with some deeds, each one using the newest version."""
        for name in names():
            kind = LISTED[name][0]
            start = [("one", (3,)), ("one", (4,))] if kind == "joined" else [("empty", ())]
            users = [(f, sorts) for f, sorts, _ in functions_of(kind) if "v" in sorts]
            for row in itertools.product(users, repeat=3):
                world, newest = list(start), len(start) - 1
                for f, sorts in row:
                    arguments = [("of", newest) if sort == "v" else k for k, sort in enumerate(sorts)]
                    world.append((f, tuple(arguments)))
                    if f not in ("first", "last", "head", "look", "least"):
                        newest = len(world) - 1
                self.assert_kept(name, tuple(world))
                self.assert_agreed(name, tuple(world))

    def test_branched_worlds(self):
        for name in names():
            kind = LISTED[name][0]
            for chance in chances(900, 6):
                world = lively_world(kind, chance, 20)
                answering = ("first", "last", "head", "look", "least")
                for k in range(0, len(world), 3):
                    if world[k][0] not in answering:
                        self.assert_kept(name, branched(kind, world, k, 3)[:40])

    def test_all_items_come_back(self):
        takers = {"queue": ("first", "rest"), "deque": ("last", "init"), "list": ("head", "tail"),
                  "joined": ("first", "rest"), "heap": ("least", "without")}
        for name in names():
            kind = LISTED[name][0]
            ask, take = takers[kind]
            row = {"queue": "put v+", "deque": "front +v", "list": "cons +v", "joined": "join vv", "heap": "insert v-"}[kind]
            world, newest = grown(kind, row, 12)
            items = plain_meanings(kind, world)[newest][1]
            for k in range(min(12, len(items))):
                world.extend([(ask, (("of", newest),)), (take, (("of", newest),))])
                newest = len(world) - 1
            told = [one[1] for one in outcomes(shelf(name), tuple(world)) if isinstance(one[1], int)]
            self.assertEqual(told, [one[1] for one in plain_meanings(kind, world) if one[0] == "answer"])
            self.assertEqual(len(told), 12)
            self.assert_kept(name, tuple(world[:40]))

    def test_each_position_of_a_list(self):
        world, newest = grown("list", "cons +v", 60)
        items = plain_meanings("list", world)[newest][1]
        self.assertEqual(len(items), 60)
        for i in (-10 ** 11, -2, -1, 60, 61, 90, 10 ** 11):
            asked = tuple(world) + (("look", (("of", newest), i)), ("set", (("of", newest), i, 5)))
            self.assertEqual(outcomes(shelf("skew"), asked)[-2:], (("stuck",), ("stuck",)))
        for i in range(60):
            asked = tuple(world) + (("look", (("of", newest), i)), ("set", (("of", newest), i, 500)),
                                    ("look", (("of", newest + 2), i)), ("look", (("of", newest + 2), (i + 1) % 60)),
                                    ("look", (("of", newest), i)))
            told = outcomes(shelf("skew"), asked)[newest + 1:]
            self.assertEqual([told[k] for k in (0, 2, 3, 4)],
                             [("value", n) for n in (items[i], 500, items[(i + 1) % 60], items[i])])
            for count in steps(shelf("skew"), asked)[newest + 1:]:
                self.assertLessEqual(count, 60 * 7)

    def test_great_integers_and_equal_items(self):
        for name in ("leftist", "binomial"):
            world = [("empty", ())]
            for n in (10 ** 12 - 1, -10 ** 12 + 1, 0, 0, 5, 5, 10 ** 12 - 1, -1):
                world.append(("insert", (("of", len(world) - 1), n)))
            for _ in range(9):
                world.append(("without", (("of", len(world) - 1),)))
            world += [("least", (("of", k),)) for k in range(1, 18)]
            self.assert_kept(name, tuple(world))
            self.assert_agreed(name, tuple(world))

    def test_lines(self):
        """No result is used twice: what "eager" promises."""
        for chance in chances(0, 80):
            world, ends = [("empty", ())], [0]
            while len(world) < 40:
                f = chance.choice(("put", "put", "put", "rest", "rest", "empty", "first") if ends else ("empty",))
                if f == "empty":
                    world.append((f, ()))
                else:
                    end = ends.pop(chance.randrange(len(ends)))
                    world.append((f, (("of", end), 1) if f == "put" else (("of", end),)))
                if f != "first":
                    ends.append(len(world) - 1)
            self.assertLessEqual(max(pairs(world).values()), 1)
            self.assert_kept("eager", tuple(world))
            self.assertLessEqual(sum(steps(shelf("eager"), tuple(world))), 31 * 40)
        for many in range(1, 39):
            world = [("empty", ())] + [("put", (("of", k), k)) for k in range(many)]
            world += [("rest", (("of", k),)) for k in range(many, 39)]
            self.assert_kept("eager", tuple(world))
            self.assertLessEqual(sum(steps(shelf("eager"), tuple(world))), 31 * 40)

    def test_no_deed_is_long(self):
        # All that waits for long: many merges and inserts of which none is asked for before the last deed
        for row in ("merge vw", "merge wv,insert v+", "insert v-,merge vw", "merge vv,insert v+,insert v-", "merge vw,merge wv"):
            world, newest = grown("heap", row, 37)
            world = tuple(world[:39]) + (("without", (("of", newest),)),)
            self.assert_kept("binomial", world)
            self.assertLess(max(steps(shelf("binomial"), world)), 5000)


class KeepsTests(unittest.TestCase):

    def assert_edge(self, word, kind, program, world):
        """It is so for a number and all above, and for none below."""
        c = least_number(word, kind, program, world)
        for number, expected in ((c, True), (c + 1, True), (10 ** 9, True), (c - 1, False), (c // 2, False)):
            if number >= 1 and (expected or number < c):
                self.assertIs(keeps(kind, program, world, (word, number)), expected, (word, number, world))
        return c

    def test_just_below_and_at_what_holds(self):
        for name, (kind, _) in LISTED.items():
            met = {word: {} for word in ("each", "held", "line", "log")}
            for chance in chances(0, 10):
                world = lively_world(kind, chance, 24)[:chance.randrange(1, 25)]
                for word in met:
                    met[word][self.assert_edge(word, kind, shelf(name), world)] = True
            for word in ("each", "held", "log"):
                self.assertGreater(len(met[word]), 1, (name, word))

    def test_other_programs(self):
        for kind, program in (("queue", TWO), ("queue", PILE), ("queue", WAITING), ("deque", DEQUE), ("list", LIST),
                              ("joined", JOINED), ("heap", HEAP)):
            for chance in chances(40, 15):
                for word in ("each", "held", "line", "log"):
                    self.assert_edge(word, kind, program, kind_world(kind, chance, 12, 12))

    def test_line(self):
        program = shelf("eager")
        line = (("empty", ()), ("put", (("of", 0), 1)), ("put", (("of", 1), 2)), ("rest", (("of", 2),)), ("first", (("of", 3),)))
        self.assertEqual(self.assert_edge("line", "queue", program, line), -(-sum(steps(program, line)) // 5))
        self.assertGreater(self.assert_edge("line", "queue", program, line), 10)
        # Two deeds use the same result: nothing is demanded.
        for world in (line + (("first", (("of", 0),)),), line[:4] + (("rest", (("of", 2),)),)):
            self.assertEqual(sorted(pairs(world).values())[-1], 2)
            self.assertIs(keeps("queue", program, world, ("line", 1)), True)
        # A deed uses a result twice.
        start = (("empty", ()), ("insert", (("of", 0), 1)), ("empty", ()), ("insert", (("of", 2), 1)))
        self.assertIs(keeps("heap", shelf("leftist"), start, ("line", 1)), False)
        self.assertIs(keeps("heap", shelf("leftist"), start + (("merge", (("of", 1), ("of", 3))),), ("line", 1)), False)
        self.assertIs(keeps("heap", shelf("leftist"), start + (("merge", (("of", 1), ("of", 1))),), ("line", 1)), True)
        # A result that is used only by a deed that does nothing is used, too.
        world = (("empty", ()), ("rest", (("of", 0),)), ("put", (("of", 1), 1)), ("put", (("of", 1), 1)))
        self.assertIs(keeps("queue", program, world, ("line", 1)), True)
        self.assertIs(keeps("queue", program, world[:3], ("line", 1)), False)
        # Integers that are equal are no results.
        world = (("empty", ()), ("put", (("of", 0), 0)), ("put", (("of", 1), 0)), ("put", (("of", 2), 0)))
        self.assertIs(keeps("queue", program, world, ("line", 1)), False)

    def test_log(self):
        # The deeds of a row have the same steps, whatever the number of items is, so it decides alone.
        program = read_program("(def empty () (N)) (def cons (x l) (+ (+ (+ (+ 1 1) 1) 1) 1)) (def head (l) 1) (def tail (l) 1)"
                               "(def look (l i) 1) (def set (l i x) 1)")
        for many in range(12):
            world = tuple([("empty", ())] + [("cons", (7, ("of", k))) for k in range(many)] + [("cons", (7, ("of", many)))])
            self.assertIs(keeps("list", program, world, ("log", 9)), True)
            self.assertIs(keeps("list", program, world, ("log", 8)), False)
            self.assertIs(keeps("list", program, world[:1], ("log", 1)), True)
        # What is given twice counts twice; the item that is added does not count.
        program = read_program("(def empty () 1) (def insert (h x) 1) (def least (h) 1) (def without (h) 1)"
                               "(def merge (h g) (+ (+ (+ (+ 1 1) 1) (+ 1 1)) (+ 1 1)))")
        for many in range(10):
            start = tuple([("empty", ())] + [("insert", (("of", k), 7)) for k in range(many)])
            for others, items in (((many, many), 2 * many), ((0, many), many), ((many, 0), many), ((many, many // 2), many + many // 2)):
                world = start + (("merge", tuple(("of", i) for i in others)),)
                for c in range(1, 14):
                    self.assertIs(keeps("heap", program, world, ("log", c)), 13 <= c * (1 + digits(items)))
        # An argument whose meaning is not a version counts 0, although the deed has steps.
        program = read_program("(def empty () 1) (def put (q x) (+ 1 (+ 1 (+ 1 1)))) (def first (q) 1) (def rest (q) 1)")
        world = (("empty", ()), ("rest", (("of", 0),)), ("put", (("of", 1), 1)), ("put", (("of", 2), 1)))
        self.assertEqual(meanings("queue", world)[2:], (("none",), ("none",)))
        self.assertEqual(steps(program, world), (1, 1, 7, 7))
        self.assertIs(keeps("queue", program, world, ("log", 7)), True)
        self.assertIs(keeps("queue", program, world, ("log", 6)), False)

    def test_each_counts_works(self):
        program = read_program("(def empty () (delay (+ 1 1))) (def put (q x) q) (def first (q) (force q)) (def rest (q) q)")
        world = (("empty", ()), ("first", (("of", 0),)), ("first", (("of", 0),)))
        self.assertEqual(steps(program, world), (1, 5, 2))
        self.assertEqual(self.assert_edge("each", "queue", program, world), 5)
        self.assertEqual(self.assert_edge("held", "queue", program, world), 3)
        self.assertEqual(self.assert_edge("log", "queue", program, world), 5)

    def test_the_world_without_deeds(self):
        for name, (kind, _) in LISTED.items():
            for word in ("each", "held", "line", "log"):
                self.assertIs(keeps(kind, shelf(name), (), (word, 1)), True)

    def test_held_is_a_book(self):
        for name, (kind, _) in LISTED.items():
            for chance in chances(77, 6):
                world = lively_world(kind, chance, 24)
                for c in (1, 10, 20, 30, 40, 60, 100, 10 ** 9):
                    expected = judge_charge(shelf(name), world, c)[0] == "book"
                    self.assertIs(keeps(kind, shelf(name), world, ("held", c)), expected)

    def test_promises_that_are_not_kept(self):
        slow = slow_world(12)
        for promised in (("each", 40), ("held", 64), ("log", 16)):
            self.assertIs(keeps("queue", shelf("eager"), slow, promised), False)
        self.assertIs(keeps("queue", shelf("banker"), slow, ("each", 40)), False)
        self.assertIs(keeps("queue", shelf("banker"), slow, ("held", 64)), True)
        self.assertIs(keeps("queue", shelf("real"), slow, ("each", 40)), True)
        world, newest = grown("list", "cons +v", 38)
        self.assertIs(keeps("list", LIST, tuple(world) + (("look", (("of", newest), 37)),), ("log", 30)), False)
        world, newest = grown("heap", "insert v+", 37)
        self.assertIs(keeps("heap", HEAP, tuple(world), ("log", 60)), False)
        world, newest = grown("deque", "back v+", 38)
        self.assertIs(keeps("deque", DEQUE, tuple(world), ("held", 240)), False)
        world, newest = grown("queue", "put v+", 20)
        world = tuple(world) + (("first", (("of", newest),)),) * 3
        self.assertIs(keeps("queue", WAITING, world, ("each", 64)), False)

    def test_no_promises(self):
        for bad in ANY_VALUES + (
            ("held",), ("held", 0), ("held", -1), ("held", True), ("held", False), ("held", "5"), ("held", None), ["held", 5],
            ("held", 5, 5), ("held", (5,)), ("held", [5]), ("Held", 5), ("", 5), ("keeps", 5), (5, "held"), (5, 5), (("held",), 5),
            (["held"], 5), ({}, 5), (None, 5), (a_desk(), 5), ("held", a_desk()), a_desk(), (True, 1), ("each", -5), ("line", 0),
            ("log", 0), ("log", {}), "held", ("held 5",), (("held", 5),), (("held", 5), ("each", 5)),
        ):
            for world in ((), QUEUE):
                got = outcome(keeps, "queue", shelf("banker"), world, bad)
                self.assertEqual(got[:2], ("raised", "BadPromise"), bad)
                self.assertIs(got[2], bad)
        for word in ("each", "held", "line", "log"):
            for c in (1, 2, 10 ** 9):
                self.assertIn(keeps("queue", shelf("real"), QUEUE, (word, c)), (True, False))

    def test_errors_in_their_order(self):
        faulty = program_of(("name", "y"))
        for bad in ANY_VALUES + ("stack",):
            got = outcome(keeps, bad, 1, 2, 3)
            self.assertEqual(got[:2], ("raised", "BadKind"))
            self.assertIs(got[2], bad)
        for bad in ANY_VALUES + (BOX, faulty, shelf("deque"), shelf("skew")):
            got = outcome(keeps, "queue", bad, 2, 3)
            self.assertEqual(got[:2], ("raised", "BadProgram"))
            self.assertIs(got[2], bad)
        for bad in ANY_VALUES + ((("put", (("of", 0), 1)),), (("empty", ()), ("check", (("of", 0), 1))), list(QUEUE)):
            if bad != ():
                got = outcome(keeps, "queue", shelf("eager"), bad, 3)
                self.assertEqual(got[:2], ("raised", "BadWorld"))
                self.assertIs(got[2], bad)

    def test_promptly(self):
        for name, (kind, promised) in LISTED.items():
            for world in (list(again_worlds(kind, 40))[-1], lively_world(kind, chances(5, 1)[0])):
                began = time.perf_counter()
                self.assertIs(keeps(kind, shelf(name), world, promised), True)
                self.assertLess(time.perf_counter() - began, SECONDS)


if __name__ == "__main__":
    unittest.main()
