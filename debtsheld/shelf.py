"""The shelf: its programs, what they promise, and whether what is promised is so for a world."""

from debtsheld.books import judge_charge
from debtsheld.errors import BadName, BadProgram, BadPromise
from debtsheld.forms import is_integer
from debtsheld.kinds import is_kind_program, meanings
from debtsheld.programs import read_program
from debtsheld.stock import TEXTS
from debtsheld.worlds import steps

PROGRAM_KINDS = {
    "eager": "queue",
    "banker": "queue",
    "real": "queue",
    "deque": "deque",
    "skew": "list",
    "joined": "joined",
    "leftist": "heap",
    "binomial": "heap",
}

PROMISES = {
    "eager": ("line", 31),
    "banker": ("held", 64),
    "real": ("each", 40),
    "deque": ("held", 240),
    "skew": ("log", 60),
    "joined": ("held", 440),
    "leftist": ("log", 80),
    "binomial": ("held", 1000),
}

WORDS = ("each", "held", "line", "log")


def names():
    return tuple(sorted(TEXTS))


def check_name(name):
    # Only a string is looked up: a list has no hash.
    if not isinstance(name, str) or name not in TEXTS:
        raise BadName(name)


def shelf(name):
    check_name(name)
    return read_program(TEXTS[name])


def kind_of(name):
    check_name(name)
    return PROGRAM_KINDS[name]


def promise(name):
    check_name(name)
    return PROMISES[name]


def is_promise(thing):
    if not isinstance(thing, tuple) or len(thing) != 2:
        return False
    word, c = thing
    return word in WORDS and is_integer(c) and c >= 1


def keeps(kind, program, world, promise):
    if not is_kind_program(kind, program):
        raise BadProgram(program)
    meant = meanings(kind, world)
    if not is_promise(promise):
        raise BadPromise(promise)
    word, c = promise
    if word == "held":
        return judge_charge(program, world, c)[0] == "book"
    counts = steps(program, world)
    if word == "each":
        return all([count <= c for count in counts])
    if word == "line":
        return uses_twice(world) or sum(counts) <= c * len(world)
    sizes = [items_given(deed, meant) for deed in world]
    return all([count <= c * (1 + size.bit_length()) for count, size in zip(counts, sizes)])


def uses_twice(world):
    """Whether a result is used by two deeds, or twice by one."""
    results = [argument[1] for _, arguments in world for argument in arguments if not is_integer(argument)]
    return len(set(results)) < len(results)


def items_given(deed, meant):
    """The number of all items in the versions among the arguments of a deed."""
    means = [meant[argument[1]] for argument in deed[1] if not is_integer(argument)]
    return sum([len(one[1]) for one in means if one[0] == "version"])
