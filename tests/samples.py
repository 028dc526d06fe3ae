"""Programs, texts and values that several tests use."""

import copy

BOX = (
    ("box", ("x",), ("make", "Box", (("delay", ("op", "+", ("name", "x"), ("int", 1))),))),
    ("open", ("b",), ("case", ("name", "b"), (("Box", ("c",), ("force", ("name", "c"))),))),
)
BOX_TEXT = "(def box (x) (Box (delay (+ x 1))))\n(def open (b) (case b ((Box c) (force c))))"

ONE = ("int", 1)
X = ("name", "x")
DEEP_LIST = [[[[[[[[[[[["x"]]]]]]]]]]]]

# One expression of each form, with its text.
FORMS = (
    (("int", 0), "0"),
    (("int", 42), "42"),
    (("int", -7), "-7"),
    (("name", "x"), "x"),
    (("name", "x1y2z3"), "x1y2z3"),
    (("call", "f", ()), "(f)"),
    (("call", "f", (X,)), "(f x)"),
    (("call", "int", (X, ONE)), "(int x 1)"),
    (("make", "T", ()), "(T)"),
    (("make", "Tag9", (ONE, X, ("int", -3))), "(Tag9 1 x -3)"),
    (("case", X, (("T", (), ONE),)), "(case x ((T) 1))"),
    (("case", X, (("T", ("a", "b"), ONE), ("U", (), ("name", "y")))), "(case x ((T a b) 1) ((U) y))"),
    (("let", "y", X, ("name", "y")), "(let y x y)"),
    (("if", "<", X, ONE, ("int", 2), ("int", 3)), "(if < x 1 2 3)"),
    (("if", "=", X, ONE, ("int", 2), ("int", 3)), "(if = x 1 2 3)"),
    (("op", "+", X, ONE), "(+ x 1)"),
    (("op", "-", X, ("int", -1)), "(- x -1)"),
    (("op", "*", X, X), "(* x x)"),
    (("delay", X), "(delay x)"),
    (("force", X), "(force x)"),
)


def program_of(expression):
    return (("f", ("x",), expression),)


def text_of(expression_text):
    return "(def f (x) " + expression_text + ")"


def wrapped(e, text):
    """The expression e in each place of each form, with the texts."""
    return (
        (("call", "f", (e,)), "(f " + text + ")"),
        (("call", "f", (ONE, e)), "(f 1 " + text + ")"),
        (("make", "T", (e, ONE)), "(T " + text + " 1)"),
        (("case", e, (("T", (), ONE),)), "(case " + text + " ((T) 1))"),
        (("case", ONE, (("T", ("y",), e),)), "(case 1 ((T y) " + text + "))"),
        (("case", ONE, (("T", (), ONE), ("U", (), e))), "(case 1 ((T) 1) ((U) " + text + "))"),
        (("let", "y", e, ONE), "(let y " + text + " 1)"),
        (("let", "y", ONE, e), "(let y 1 " + text + ")"),
        (("if", "<", e, ONE, ONE, ONE), "(if < " + text + " 1 1 1)"),
        (("if", "<", ONE, e, ONE, ONE), "(if < 1 " + text + " 1 1)"),
        (("if", "=", ONE, ONE, e, ONE), "(if = 1 1 " + text + " 1)"),
        (("if", "=", ONE, ONE, ONE, e), "(if = 1 1 1 " + text + ")"),
        (("op", "+", e, ONE), "(+ " + text + " 1)"),
        (("op", "*", ONE, e), "(* 1 " + text + ")"),
        (("delay", e), "(delay " + text + ")"),
        (("force", e), "(force " + text + ")"),
    )


class Thing:
    """An object that is equal only to itself, as a desk is."""


ANY_VALUES = (
    None, True, False, 0, 1, -1, 10 ** 39, "", "x", "f", "(def f () 1)", "x" * 3000, "(" * 3000, " \n",
    (), (1,), [], [1], {}, {"f": 1}, {1: [2]}, [()], ((),), ([],), ({},), (None,), ("f",), (("f",),),
    (("f", (), ("int", 1)), None), [("f", (), ("int", 1))], ("f", (), ("int", 1)), ("int", 1),
    DEEP_LIST, (DEEP_LIST,), (("f", (), DEEP_LIST),), (("f", (), {}),), (("f", {}, ONE),), (({}, (), ONE),),
    (("f", (), (["int"], 1)),), (("f", (), ({}, 1)),), (("f", (), ((), 1)),), tuple(range(1999)),
    (("f", (), ("int", {})),), (("f", (), ("name", [])),), (("f", (), ("call", [], ())),), Thing(), (Thing(),),
    (("f", (), (Thing(), 1)),), (("f", (), ("op", Thing(), ONE, ONE)),), (("f", (), ("if", [], ONE, ONE, ONE, ONE)),),
    (BOX,), [BOX], list(BOX), BOX + (1,), BOX[0], (BOX_TEXT,), BOX + (BOX,),
)


def outcome(function, *arguments, **named):
    """What a call does: ("returned", value) or ("raised", name of the error's class, its thing)."""
    try:
        return ("returned", function(*arguments, **named))
    except Exception as e:
        return ("raised", type(e).__name__, getattr(e, "thing", e))


def frozen(value):
    """A text that differs for values that differ in a part or in the kind of a part."""
    return repr(value)


def copied(value):
    return copy.deepcopy(value)


def nested(depth):
    """An expression whose expressions are nested that deep, with brackets as deep as they get."""
    e = X
    for _ in range(depth - 1):
        e = ("case", X, (("T", (), e),))
    return e


def nested_text(depth):
    return "(case x ((T) " * (depth - 1) + "x" + "))" * (depth - 1)
