"""The machine: it evaluates deeds, counts their steps and numbers their cells.

Nothing here calls itself, for evaluations can be nested thousands deep: what is still to be done waits in a list.
"""

from debtsheld.forms import is_integer

MOST_STEPS = 5000
STUCK = ("stuck",)
LONG = ("long",)
NONE = ("none",)


class Cell:
    """A cell, which is delayed as long as its value is None."""

    def __init__(self, expression, bound, root):
        self.expression = expression
        self.bound = bound
        self.root = root
        self.value = None


class Machine:
    """The cells of a world, and the traces of the deeds that were done."""

    def __init__(self, program):
        self.functions = {f: (parameters, body) for f, parameters, body in program}
        self.cells = []
        self.traces = []

    def perform(self, deed):
        """Does a deed behind the others, and returns its trace."""
        trace = self.trace_of(deed)
        self.traces.append(trace)
        return trace

    def trace_of(self, deed):
        f, arguments = deed
        parts = [self.given(argument) for argument in arguments]
        if any([part is None for part in parts]):
            return (NONE, 0, (), ())
        first_made = len(self.cells)
        parameters, body = self.functions[f]
        run = Run(self, len(self.traces))
        evaluate(run, body, dict(zip(parameters, parts)))
        # The counts of the cells that were not worked out are own steps of the deed, too.
        return (run.outcome, sum(run.counts), tuple(run.works), tuple(range(first_made, len(self.cells))))

    def take_back(self):
        """Undoes the last deed: what it made is gone, and what it worked out is delayed again."""
        _, _, works, made = self.traces.pop()
        for number, _ in works:
            self.cells[number].value = None
        del self.cells[len(self.cells) - len(made):]

    def given(self, argument):
        """The value that an argument of a deed stands for, or None if there is none."""
        if is_integer(argument):
            return argument
        outcome = self.traces[argument[1]][0]
        return outcome[1] if outcome[0] == "value" else None


class Run:
    """The evaluation of one deed.

    waiting: what is still to be done, the next thing at its end: triples of a function and two of its arguments.
    found: the values that what waits will use. asked: the cells whose expressions are being evaluated.
    counts: the steps of the deed itself, and behind them those of each cell that is asked.
    """

    def __init__(self, machine, deed):
        self.machine = machine
        self.deed = deed
        self.waiting = []
        self.found = []
        self.asked = []
        self.counts = [0]
        self.total = 0
        self.works = []
        self.outcome = None


def evaluate(run, body, bound):
    run.waiting.append((begin, body, bound))
    while run.waiting and run.outcome is None:
        action, thing, names = run.waiting.pop()
        action(run, thing, names)
    if run.outcome is None:
        run.outcome = ("value", run.found.pop())


def begin(run, expression, bound):
    """Makes the step of an expression."""
    if run.total == MOST_STEPS:
        run.outcome = LONG
        return
    run.total += 1
    run.counts[-1] += 1
    run.waiting.append((finish, expression, bound))
    # What waits is taken from its end, so it is put there backwards.
    run.waiting.extend([(begin, part, bound) for part in evaluated_first(expression)[::-1]])


def evaluated_first(expression):
    """The expressions that are evaluated in an expression in any case."""
    form = expression[0]
    if form == "call" or form == "make":
        return expression[2]
    if form == "case" or form == "force":
        return expression[1:2]
    if form == "let":
        return expression[2:3]
    if form == "if" or form == "op":
        return expression[2:4]
    return ()


def finish(run, expression, bound):
    """Goes on with an expression when the values of what is evaluated first are found."""
    start = len(run.found) - len(evaluated_first(expression))
    parts = tuple(run.found[start:])
    del run.found[start:]
    end = ENDS[expression[0]]
    end(run, expression, bound, parts)


def end_int(run, expression, bound, parts):
    run.found.append(expression[1])


def end_name(run, expression, bound, parts):
    run.found.append(bound[expression[1]])


def end_call(run, expression, bound, parts):
    parameters, body = run.machine.functions[expression[1]]
    run.waiting.append((begin, body, dict(zip(parameters, parts))))


def end_make(run, expression, bound, parts):
    run.found.append((expression[1], parts))


def end_case(run, expression, bound, parts):
    for tag, names, body in expression[2]:
        if has_tag(parts[0], tag):
            run.waiting.append((begin, body, bound_with(bound, names, parts[0][1])))
            return
    run.outcome = STUCK


def has_tag(value, tag):
    return isinstance(value, tuple) and value[0] == tag


def bound_with(bound, names, parts):
    """A new dict of what is bound: cells keep the one that they were made with."""
    now_bound = dict(bound)
    for name, part in zip(names, parts):
        now_bound[name] = part
    return now_bound


def end_let(run, expression, bound, parts):
    run.waiting.append((begin, expression[3], bound_with(bound, expression[1:2], parts)))


def end_if(run, expression, bound, parts):
    a, b = parts
    if not is_integer(a) or not is_integer(b):
        run.outcome = STUCK
        return
    holds = a < b if expression[1] == "<" else a == b
    run.waiting.append((begin, expression[4] if holds else expression[5], bound))


def end_op(run, expression, bound, parts):
    a, b = parts
    if not is_integer(a) or not is_integer(b):
        run.outcome = STUCK
    elif expression[1] == "+":
        run.found.append(a + b)
    elif expression[1] == "-":
        run.found.append(a - b)
    else:
        run.found.append(a * b)


def end_delay(run, expression, bound, parts):
    cells = run.machine.cells
    root = cells[run.asked[-1]].root if run.asked else run.deed
    run.found.append(("cell", len(cells)))
    cells.append(Cell(expression[1], bound, root))


def end_force(run, expression, bound, parts):
    if not has_tag(parts[0], "cell"):
        run.outcome = STUCK
        return
    number = parts[0][1]
    cell = run.machine.cells[number]
    if cell.value is not None:
        run.found.append(cell.value)
        return
    run.asked.append(number)
    run.counts.append(0)
    run.waiting.append((keep, number, None))
    run.waiting.append((begin, cell.expression, cell.bound))


def keep(run, number, bound):
    """The expression of a cell was evaluated: the cell keeps its value, which is that of the force, too."""
    run.machine.cells[number].value = run.found[-1]
    run.asked.pop()
    run.works.append((number, run.counts.pop()))


ENDS = {
    "int": end_int,
    "name": end_name,
    "call": end_call,
    "make": end_make,
    "case": end_case,
    "let": end_let,
    "if": end_if,
    "op": end_op,
    "delay": end_delay,
    "force": end_force,
}
