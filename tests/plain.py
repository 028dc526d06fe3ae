"""A plain machine, written apart from the package, and worlds made by chance: the tests compare with these."""

import random
import sys
import threading


class Stuck(Exception):
    pass


class Long(Exception):
    pass


class Beyond(Exception):
    """A computed integer is beyond the limit of 200 digits."""


class PlainMachine:
    """It follows part 3 word by word, by recursion."""

    def __init__(self, program):
        self.definitions = {f: (parameters, body) for f, parameters, body in program}
        self.cells = []
        self.traces = []
        self.roots = []

    def do(self, deed):
        f, arguments = deed
        given = []
        for argument in arguments:
            if isinstance(argument, tuple):
                outcome = self.traces[argument[1]][0]
                if outcome[0] != "value":
                    self.traces.append((("none",), 0, (), ()))
                    return
                argument = outcome[1]
            given.append(argument)
        self.total, self.works, self.made, self.within = 0, [], [], []
        parameters, body = self.definitions[f]
        try:
            outcome = ("value", self.value_of(body, dict(zip(parameters, given))))
        except Stuck:
            outcome = ("stuck",)
        except Long:
            outcome = ("long",)
        own = self.total - sum(work for _, work in self.works)
        self.traces.append((outcome, own, tuple(self.works), tuple(self.made)))

    def value_of(self, e, bound):
        if self.total == 5000:
            raise Long
        self.total += 1
        if e[0] == "int":
            return e[1]
        if e[0] == "name":
            return bound[e[1]]
        if e[0] == "call":
            given = [self.value_of(part, bound) for part in e[2]]
            parameters, body = self.definitions[e[1]]
            return self.value_of(body, dict(zip(parameters, given)))
        if e[0] == "make":
            return (e[1], tuple([self.value_of(part, bound) for part in e[2]]))
        if e[0] == "case":
            value = self.value_of(e[1], bound)
            for tag, names, body in e[2]:
                if type(value) is tuple and value[0] == tag:
                    return self.value_of(body, {**bound, **dict(zip(names, value[1]))})
            raise Stuck
        if e[0] == "let":
            return self.value_of(e[3], {**bound, e[1]: self.value_of(e[2], bound)})
        if e[0] in ("if", "op"):
            a, b = self.value_of(e[2], bound), self.value_of(e[3], bound)
            if type(a) is not int or type(b) is not int:
                raise Stuck
            if e[0] == "op":
                n = {"+": a + b, "-": a - b, "*": a * b}[e[1]]
                if abs(n) >= 10 ** 200:
                    raise Beyond
                return n
            return self.value_of(e[4] if {"<": a < b, "=": a == b}[e[1]] else e[5], bound)
        if e[0] == "delay":
            self.roots.append(self.roots[self.within[-1]] if self.within else len(self.traces))
            self.made.append(len(self.cells))
            self.cells.append(["delayed", e[1], bound])
            return ("cell", len(self.cells) - 1)
        value = self.value_of(e[1], bound)
        if type(value) is not tuple or value[0] != "cell":
            raise Stuck
        return self.forced(value[1])

    def forced(self, i):
        cell = self.cells[i]
        if cell[0] == "delayed":
            steps, works = self.total, len(self.works)
            self.within.append(i)
            value = self.value_of(cell[1], cell[2])
            self.within.pop()
            inner = sum(work for _, work in self.works[works:])
            self.works.append((i, self.total - steps - inner))
            self.cells[i] = cell = ["worked out", value]
        return cell[1]


def plain_machine(program, world):
    """The machine on which the deeds were done, or None if the world is beyond the limits."""
    machine = PlainMachine(program)
    try:
        for deed in world:
            machine.do(deed)
    except Beyond:
        return None
    return machine


def with_much_room(function):
    """Calls the function where a recursion can be thousands deep."""
    raised = []

    def call():
        try:
            function()
        except Exception as e:
            raised.append(e)

    limit, size = sys.getrecursionlimit(), threading.stack_size(512 * 1024 * 1024)
    sys.setrecursionlimit(60000)
    try:
        thread = threading.Thread(target=call)
        thread.start()
        thread.join()
    finally:
        sys.setrecursionlimit(limit)
        threading.stack_size(size)
    if raised:
        raise raised[0]


SIZES = {"A": 0, "B": 1, "Cc": 2}
FUNCTIONS = {"f": 1, "g": 2, "h": 0}


def some_expression(chance, depth, bound):
    """An expression without a fault, in which these names are bound."""
    leaves = ("int", "name", "name") if bound else ("int",)
    form = chance.choice(leaves) if depth == 0 else chance.choice(
        leaves + ("call", "make", "make", "case", "case", "case", "let", "let", "if", "op", "op", "delay", "delay",
                  "force", "force", "force"))

    def deeper(more=()):
        return some_expression(chance, depth - 1, tuple(bound) + tuple(more))

    if form == "int":
        return ("int", chance.randrange(-2, 4))
    if form == "name":
        return ("name", chance.choice(bound))
    if form == "call":
        f = chance.choice(sorted(FUNCTIONS))
        return ("call", f, tuple(deeper() for _ in range(FUNCTIONS[f])))
    if form == "make":
        tag = chance.choice(sorted(SIZES))
        return ("make", tag, tuple(deeper() for _ in range(SIZES[tag])))
    if form == "case":
        branches = []
        for tag in chance.sample(sorted(SIZES), chance.randrange(1, 4)):
            names = tuple(chance.sample(("x", "y", "z"), SIZES[tag]))
            branches.append((tag, names, deeper(names)))
        return ("case", likely(chance, deeper, "make"), tuple(branches))
    if form == "let":
        name = chance.choice("xyz")
        return ("let", name, deeper(), deeper((name,)))
    if form == "if":
        return ("if", chance.choice("<="), deeper(), deeper(), deeper(), deeper())
    if form == "op":
        return ("op", chance.choice("+-*"), deeper(), deeper())
    if form == "delay":
        return ("delay", deeper())
    return ("force", likely(chance, deeper, "delay"))


def likely(chance, deeper, form):
    """An expression that is likely to be of this form, so that not nearly all evaluations get stuck."""
    for _ in range(6):
        e = deeper()
        if e[0] in (form, "name", "case", "let"):
            return e
    return e


def some_program(chance):
    names = ("x", "y")
    return tuple((f, names[:size], some_expression(chance, chance.randrange(2, 5), names[:size]))
                 for f, size in sorted(FUNCTIONS.items()))


def some_world(chance, program, most):
    """A world with up to that many deeds; where a result can be used it often is."""
    world = []
    for k in range(chance.randrange(most + 1)):
        f, parameters, _ = chance.choice(program)
        arguments = [("of", chance.randrange(k)) if k and chance.random() < 0.7 else chance.randrange(-2, 4)
                     for _ in parameters]
        world.append((f, tuple(arguments)))
    return tuple(world)


def some_line(world, k):
    """The line of a deed, by the words of the document."""
    found = {k}
    for argument in world[k][1]:
        if isinstance(argument, tuple):
            found |= some_line(world, argument[1])
    return found


def chances(first, many):
    return [random.Random(seed) for seed in range(first, first + many)]
