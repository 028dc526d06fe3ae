"""The checker: the first fault of a program."""

from debtsheld.errors import BadProgram
from debtsheld.forms import inner, parameter_counts
from debtsheld.programs import is_program


def twice_fault(program):
    f = first_repeated([definition[0] for definition in program])
    return None if f is None else ("twice", f)


def first_repeated(words):
    """The word whose second occurrence comes first, or None if no word occurs twice."""
    seen = set()
    for word in words:
        if word in seen:
            return word
        seen.add(word)
    return None


def parameter_fault(program):
    for f, parameters, body in program:
        rows = [parameters] + [thing[1] for word, thing in places(body) if word == "branch"]
        for names in rows:
            x = first_repeated(names)
            if x is not None:
                return ("parameter", f, x)
    return None


def places(body):
    """The expressions and the branches of a body in the order of its text.

    Each one stands behind the first word of its form; a branch, which has none, behind "branch".
    """
    found = []
    waiting = [(body[0], body)]
    while waiting:
        word, thing = waiting.pop()
        found.append((word, thing))
        # What waits is taken from its end, so it is put there backwards.
        waiting.extend(places_within(word, thing)[::-1])
    return found


def places_within(word, thing):
    """The places directly within an expression or a branch."""
    if word == "branch":
        return [(thing[2][0], thing[2])]
    if word == "case":
        return [(thing[1][0], thing[1])] + [("branch", branch) for branch in thing[2]]
    return [(part[0], part) for part in inner(thing)]


def unbound_fault(program):
    for f, parameters, body in program:
        waiting = [(body, bound_too({}, parameters))]
        while waiting:
            expression, bound = waiting.pop()
            if expression[0] == "name" and expression[1] not in bound:
                return ("unbound", f, expression[1])
            waiting.extend(scopes_within(expression, bound)[::-1])
    return None


def bound_too(bound, names):
    """A new dict of what is bound, and of the names."""
    now_bound = dict(bound)
    for name in names:
        now_bound[name] = True
    return now_bound


def scopes_within(expression, bound):
    """The expressions directly within an expression, in the order of its text, each with what is bound there."""
    if expression[0] == "case":
        bodies = [(body, bound_too(bound, names)) for _, names, body in expression[2]]
        return [(expression[1], bound), *bodies]
    if expression[0] == "let":
        return [(expression[2], bound), (expression[3], bound_too(bound, [expression[1]]))]
    return [(part, bound) for part in inner(expression)]


def call_fault(program):
    counts = parameter_counts(program)
    for f, _, body in program:
        for word, thing in places(body):
            if word == "call" and counts.get(thing[1]) != len(thing[2]):
                return ("call", f, thing[1])
    return None


def tag_fault(program):
    # It is enough to know the first place of each tag: up to the first fault all places agree with it.
    first_sizes = {}
    for f, _, body in program:
        for word, thing in places(body):
            if word != "make" and word != "branch":
                continue
            tag, parts = (thing[1], thing[2]) if word == "make" else (thing[0], thing[1])
            if first_sizes.setdefault(tag, len(parts)) != len(parts):
                return ("tag", f, tag)
    return None


def branch_fault(program):
    for f, _, body in program:
        for word, thing in places(body):
            if word == "case":
                tag = first_repeated([branch[0] for branch in thing[2]])
                if tag is not None:
                    return ("branch", f, tag)
    return None


# In the order in which all definitions are examined for them.
SEARCHES = (twice_fault, parameter_fault, unbound_fault, call_fault, tag_fault, branch_fault)


def fault(program):
    if not is_program(program):
        raise BadProgram(program)
    for search in SEARCHES:
        found = search(program)
        if found is not None:
            return found
    return None


def is_checked(program):
    return fault(program) is None
