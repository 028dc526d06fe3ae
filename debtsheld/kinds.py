"""Kinds of structures: their worlds, the plain meaning of these, and whether a program has this meaning."""

from debtsheld.checker import is_checked
from debtsheld.errors import BadKind, BadProgram, BadWorld
from debtsheld.forms import has_deed_form, is_integer, is_position, is_result, parameter_counts
from debtsheld.machine import NONE, STUCK
from debtsheld.programs import is_program
from debtsheld.worlds import outcomes

# The functions of each kind.
KINDS = {
    "queue": ("empty", "put", "first", "rest"),
    "deque": ("empty", "front", "back", "first", "rest", "last", "init"),
    "list": ("empty", "cons", "head", "tail", "look", "set"),
    "joined": ("empty", "one", "join", "first", "rest"),
    "heap": ("empty", "insert", "least", "without", "merge"),
}

# What each function is given; a function has the same parameters and the same meaning in all its kinds.
PARAMETERS = {
    "empty": (),
    "put": ("version", "integer"),
    "first": ("version",),
    "rest": ("version",),
    "front": ("integer", "version"),
    "back": ("version", "integer"),
    "last": ("version",),
    "init": ("version",),
    "cons": ("integer", "version"),
    "head": ("version",),
    "tail": ("version",),
    "look": ("version", "integer"),
    "set": ("version", "integer", "integer"),
    "one": ("integer",),
    "join": ("version", "version"),
    "insert": ("version", "integer"),
    "least": ("version",),
    "without": ("version",),
    "merge": ("version", "version"),
}

# The functions that return integers; all others return versions.
ANSWERING = ("first", "last", "head", "look", "least")


def check_kind(kind):
    # Only a string is looked up: a list has no hash.
    if not isinstance(kind, str) or kind not in KINDS:
        raise BadKind(kind)


def is_kind_program(kind, thing):
    check_kind(kind)
    if not is_program(thing) or not is_checked(thing):
        return False
    counts = parameter_counts(thing)
    return all([counts.get(f) == len(PARAMETERS[f]) for f in KINDS[kind]])


def is_kind_world(kind, thing):
    check_kind(kind)
    if not isinstance(thing, tuple):
        return False
    for position in range(len(thing)):
        # What stands behind the first part that is no deed is not asked: it may use the result of that part.
        if not is_kind_deed(kind, thing, position):
            return False
    return True


def is_kind_deed(kind, things, position):
    """Whether what stands at the position is a deed of the kind, if all before it is."""
    thing = things[position]
    if not has_deed_form(thing) or thing[0] not in KINDS[kind]:
        return False
    f, arguments = thing
    if len(arguments) != len(PARAMETERS[f]):
        return False
    return all([is_given(sort, argument, things, position) for sort, argument in zip(PARAMETERS[f], arguments)])


def is_given(sort, argument, things, position):
    """Whether an argument of the deed at the position is of the sort "integer" or "version"."""
    if sort == "integer":
        return is_integer(argument)
    return is_result(argument, position) and things[argument[1]][0] not in ANSWERING


def meanings(kind, world):
    if not is_kind_world(kind, world):
        raise BadWorld(world)
    found = []
    for f, arguments in world:
        found.append(meaning(f, [plain(argument, found) for argument in arguments]))
    return tuple(found)


def plain(argument, found):
    """The integer or the items that an argument stands for, or None if there are no such items."""
    if is_integer(argument):
        return argument
    word = found[argument[1]][0]
    return found[argument[1]][1] if word == "version" else None


def meaning(f, parts):
    if any([part is None for part in parts]):
        return NONE
    mean = MEANINGS[f]
    return mean(*parts)


def mean_empty():
    return ("version", ())


def mean_one(x):
    return ("version", (x,))


def mean_behind(items, x):
    return ("version", (*items, x))


def mean_before(x, items):
    return ("version", (x, *items))


def mean_first(items):
    return mean_look(items, 0)


def mean_last(items):
    return mean_look(items, len(items) - 1)


def mean_look(items, i):
    return ("answer", items[i]) if is_position(i, len(items)) else STUCK


def mean_rest(items):
    return ("version", items[1:]) if items else STUCK


def mean_init(items):
    return ("version", items[:-1]) if items else STUCK


def mean_set(items, i, x):
    if not is_position(i, len(items)):
        return STUCK
    return ("version", (*items[:i], x, *items[i + 1:]))


def mean_join(first, second):
    return ("version", first + second)


def mean_insert(items, x):
    return mean_merge(items, (x,))


def mean_merge(first, second):
    return ("version", tuple(sorted(first + second)))


# The items of a heap are ascending, so its least item is the first one.
MEANINGS = {
    "empty": mean_empty,
    "put": mean_behind,
    "first": mean_first,
    "rest": mean_rest,
    "front": mean_before,
    "back": mean_behind,
    "last": mean_last,
    "init": mean_init,
    "cons": mean_before,
    "head": mean_first,
    "tail": mean_rest,
    "look": mean_look,
    "set": mean_set,
    "one": mean_one,
    "join": mean_join,
    "insert": mean_insert,
    "least": mean_first,
    "without": mean_rest,
    "merge": mean_merge,
}


def judge_kind(kind, program, world):
    for k, fitting in enumerate(fittings(kind, program, world)):
        if not fitting:
            return ("wrong", k)
    return ("right",)


def fittings(kind, program, world):
    """Whether the outcome fits the meaning, for each deed."""
    if not is_kind_program(kind, program):
        raise BadProgram(program)
    meant = meanings(kind, world)
    return [fits(one, outcome) for one, outcome in zip(meant, outcomes(program, world))]


def fits(meant, outcome):
    """Whether the outcome of a deed fits its meaning."""
    if meant[0] == "version":
        return outcome[0] == "value"
    if meant[0] == "answer":
        return outcome == ("value", meant[1])
    return outcome == meant


def kind_holds(kind, program, world, thing):
    found = fittings(kind, program, world)
    if thing == ("right",):
        return all(found)
    if not isinstance(thing, tuple) or len(thing) != 2 or thing[0] != "wrong":
        return False
    return is_position(thing[1], len(found)) and not found[thing[1]]
