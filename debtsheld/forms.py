"""The forms of names, tags, integers and expressions, which the other files share.

Nothing here calls itself: arguments may be nested far deeper than a program, and Python's stack is small.
"""

SMALL_LETTERS = "abcdefghijklmnopqrstuvwxyz"
GREAT_LETTERS = "ABCDEFGHIJKLMNOPQRSTUVWXYZ"
DIGITS = "0123456789"
LONGEST = 12
RESERVED = ("def", "case", "let", "if", "delay", "force")
TESTS = ("<", "=")
SIGNS = ("+", "-", "*")


def is_integer(thing):
    return isinstance(thing, int) and not isinstance(thing, bool)


def is_word(thing, first, others):
    """Whether the thing is a string of 1 to 12 signs, the first one from first, all from others."""
    if not isinstance(thing, str) or not 1 <= len(thing) <= LONGEST:
        return False
    return thing[0] in first and all([sign in others for sign in thing])


def is_name(thing):
    return is_word(thing, SMALL_LETTERS, SMALL_LETTERS + DIGITS) and thing not in RESERVED


def is_tag(thing):
    return is_word(thing, GREAT_LETTERS, SMALL_LETTERS + GREAT_LETTERS + DIGITS)


def is_test(thing):
    return isinstance(thing, str) and thing in TESTS


def is_sign(thing):
    return isinstance(thing, str) and thing in SIGNS


def is_tuple(thing):
    return isinstance(thing, tuple)


def is_anything(thing):
    return True


def are_names(thing):
    return isinstance(thing, tuple) and all([is_name(part) for part in thing])


def is_branch(thing):
    """Whether the thing is a branch, but for its body."""
    return isinstance(thing, tuple) and len(thing) == 3 and is_tag(thing[0]) and are_names(thing[1])


def are_branches(thing):
    return isinstance(thing, tuple) and len(thing) >= 1 and all([is_branch(part) for part in thing])


# For each form of expression what stands behind its first word.
FORMS = {
    "int": ("integer",),
    "name": ("name",),
    "call": ("name", "expressions"),
    "make": ("tag", "expressions"),
    "case": ("expression", "branches"),
    "let": ("name", "expression", "expression"),
    "if": ("test", "expression", "expression", "expression", "expression"),
    "op": ("sign", "expression", "expression"),
    "delay": ("expression",),
    "force": ("expression",),
}

# What asks whether a part is of its sort, apart from the expressions within it.
ASKED = {
    "integer": is_integer,
    "name": is_name,
    "tag": is_tag,
    "test": is_test,
    "sign": is_sign,
    "expression": is_anything,
    "expressions": is_tuple,
    "branches": are_branches,
}


def is_of_sort(part, sort):
    ask = ASKED[sort]
    return ask(part)


def has_form(thing):
    """Whether the thing is an expression, apart from the expressions within it."""
    if not isinstance(thing, tuple) or len(thing) == 0:
        return False
    # Only a string is looked up: a list has no hash.
    if not isinstance(thing[0], str) or thing[0] not in FORMS:
        return False
    sorts = FORMS[thing[0]]
    if len(thing) != 1 + len(sorts):
        return False
    return all([is_of_sort(part, sort) for part, sort in zip(thing[1:], sorts)])


def inner(thing):
    """What stands in the places of expressions directly within a thing that has_form, in the order of its text."""
    found = []
    for part, sort in zip(thing[1:], FORMS[thing[0]]):
        if sort == "expression":
            found.append(part)
        elif sort == "expressions":
            found.extend(part)
        elif sort == "branches":
            found.extend([branch[2] for branch in part])
    return found


def is_position(thing, size):
    """Whether the thing is a position in something of that size."""
    return is_integer(thing) and 0 <= thing < size


def are_ascending(thing):
    """Whether the thing is an ascending tuple of integers."""
    if not isinstance(thing, tuple) or not all([is_integer(part) for part in thing]):
        return False
    return all([a < b for a, b in zip(thing, thing[1:])])


def is_result(thing, position):
    """Whether the thing is ("of", i) with a position i before this one."""
    if not isinstance(thing, tuple) or len(thing) != 2:
        return False
    return thing[0] == "of" and is_position(thing[1], position)


def parameter_counts(program):
    """The number of parameters of each function of a program."""
    return {f: len(parameters) for f, parameters, _ in program}


def has_deed_form(thing):
    """Whether the thing is a pair of a string and a tuple, as every deed is."""
    if not isinstance(thing, tuple) or len(thing) != 2:
        return False
    return isinstance(thing[0], str) and isinstance(thing[1], tuple)
