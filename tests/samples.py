"""Programs, texts and values that several tests use."""

import copy

from debtsheld.desk import Desk
from debtsheld.programs import read_program

BOX = (
    ("box", ("x",), ("make", "Box", (("delay", ("op", "+", ("name", "x"), ("int", 1))),))),
    ("open", ("b",), ("case", ("name", "b"), (("Box", ("c",), ("force", ("name", "c"))),))),
)
BOX_TEXT = "(def box (x) (Box (delay (+ x 1))))\n(def open (b) (case b ((Box c) (force c))))"

ONE = ("int", 1)
X = ("name", "x")
DEEP_LIST = [[[[[[[[[[[["x"]]]]]]]]]]]]

# One expression of each form, with its text.
FORMS = (
    (("int", 0), "0"),
    (("int", 42), "42"),
    (("int", -7), "-7"),
    (("name", "x"), "x"),
    (("name", "x1y2z3"), "x1y2z3"),
    (("call", "f", ()), "(f)"),
    (("call", "f", (X,)), "(f x)"),
    (("call", "int", (X, ONE)), "(int x 1)"),
    (("make", "T", ()), "(T)"),
    (("make", "Tag9", (ONE, X, ("int", -3))), "(Tag9 1 x -3)"),
    (("case", X, (("T", (), ONE),)), "(case x ((T) 1))"),
    (("case", X, (("T", ("a", "b"), ONE), ("U", (), ("name", "y")))), "(case x ((T a b) 1) ((U) y))"),
    (("let", "y", X, ("name", "y")), "(let y x y)"),
    (("if", "<", X, ONE, ("int", 2), ("int", 3)), "(if < x 1 2 3)"),
    (("if", "=", X, ONE, ("int", 2), ("int", 3)), "(if = x 1 2 3)"),
    (("op", "+", X, ONE), "(+ x 1)"),
    (("op", "-", X, ("int", -1)), "(- x -1)"),
    (("op", "*", X, X), "(* x x)"),
    (("delay", X), "(delay x)"),
    (("force", X), "(force x)"),
)

# Lazy streams: each one is a cell, whose value is (N) or (C item stream).
STREAMS = read_program("""
(def upto (n) (delay (if < n 1 (N) (C n (upto (- n 1))))))
(def append (s t) (delay (case (force s) ((N) (force t)) ((C x u) (C x (append u t))))))
(def reversed (s) (delay (onto (force s) (N))))
(def onto (s done) (case s ((N) done) ((C x u) (onto (force u) (C x (delay done))))))
(def head (s) (case (force s) ((C x u) x)))
(def tail (s) (case (force s) ((C x u) u)))
(def total (s) (case (force s) ((N) 0) ((C x u) (+ x (total u)))))
(def later (s) (delay (total s)))
(def ask (s) (force s))
(def wrong (n) (delay (+ n (N))))
(def burn (n) (if < n 1 n (burn (- n 1))))
(def slow (s n) (delay (+ (total s) (burn n))))
(def same (s) s)
(def pair (s t) (P s t))
""")

# Cells of few steps.
BOXES = read_program("""
(def box (x) (delay x))
(def both (a b) (delay (+ (force a) (force b))))
(def more (a) (delay (+ 1 (force a))))
(def nest (a) (delay (delay (force a))))
(def heavy (a) (delay (+ (force a) (* (force a) (force a)))))
(def ask (a) (force a))
(def pick (a b) a)
(def use (a b) (+ (force a) (force b)))
(def stop (a) (delay (+ (force a) (N))))
""")

TWO = read_program("""
(def empty () (Q (N) (N)))
(def rev (l a) (case l ((N) a) ((C x t) (rev t (C x a)))))
(def check (f r) (case f ((N) (Q (rev r (N)) (N))) ((C x t) (Q f r))))
(def put (q x) (case q ((Q f r) (check f (C x r)))))
(def first (q) (case q ((Q f r) (case f ((C x t) x)))))
(def rest (q) (case q ((Q f r) (case f ((C x t) (check t r))))))
""")

PILE = read_program("""
(def empty () (N))
(def put (q x) (C x q))
(def first (q) (case q ((C x t) x)))
(def rest (q) (case q ((C x t) t)))
""")

# A queue whose versions are cells.
WAITING = read_program("""
(def empty () (delay (N)))
(def put (q x) (delay (behind (force q) x)))
(def behind (l x) (case l ((N) (C x (N))) ((C y t) (C y (behind t x)))))
(def first (q) (case (force q) ((C x t) x)))
(def rest (q) (case (force q) ((C x t) (delay t))))
""")

DEQUE = read_program("""
(def empty () (N))
(def front (x d) (C x d))
(def back (d x) (case d ((N) (C x (N))) ((C y t) (C y (back t x)))))
(def first (d) (case d ((C x t) x)))
(def rest (d) (case d ((C x t) t)))
(def last (d) (case d ((C x t) (case t ((N) x) ((C y u) (last t))))))
(def init (d) (case d ((C x t) (case t ((N) (N)) ((C y u) (C x (init t)))))))
""")

LIST = read_program("""
(def empty () (N))
(def cons (x l) (C x l))
(def head (l) (case l ((C x t) x)))
(def tail (l) (case l ((C x t) t)))
(def look (l i) (case l ((C x t) (if = i 0 x (look t (- i 1))))))
(def set (l i x) (case l ((C y t) (if = i 0 (C x t) (C y (set t (- i 1) x))))))
""")

JOINED = read_program("""
(def empty () (E))
(def one (x) (L x))
(def join (a b) (case a ((E) b) ((L x) (J a b)) ((J c d) (J a b))))
(def first (a) (case a ((L x) x) ((J c d) (case c ((E) (first d)) ((L x) x) ((J e f) (first c))))))
(def rest (a) (case a ((L x) (E)) ((J c d) (join (rest c) d))))
""")

HEAP = read_program("""
(def empty () (N))
(def insert (h x) (merge h (C x (N))))
(def least (h) (case h ((C x t) x)))
(def without (h) (case h ((C x t) t)))
(def merge (h g) (case h ((N) g) ((C x t) (case g ((N) h) ((C y u) (if < y x (C y (merge h u)) (C x (merge t g))))))))
""")

KIND_PROGRAMS = (("queue", TWO), ("queue", WAITING), ("deque", DEQUE), ("list", LIST), ("joined", JOINED),
                 ("heap", HEAP))

# The arguments of the functions of STREAMS: streams and numbers.
STREAM_PARAMETERS = (
    ("upto", "n"), ("upto", "n"), ("append", "ss"), ("append", "ss"), ("reversed", "s"), ("head", "s"), ("tail", "s"),
    ("tail", "s"), ("total", "s"), ("later", "s"), ("ask", "s"), ("wrong", "n"), ("burn", "n"), ("slow", "sn"),
    ("same", "s"), ("pair", "ss"),
)


def streams_world(chance, most):
    """A world of STREAMS with up to that many deeds; most of them are given what they can use."""
    world = []
    for k in range(chance.randrange(most + 1)):
        f, sorts = chance.choice(STREAM_PARAMETERS) if k else ("upto", "n")
        arguments = []
        for sort in sorts:
            if sort == "n":
                arguments.append(chance.choice((0, 1, 2, 3, 5, 8, 800)) if f in ("burn", "slow") else chance.randrange(6))
            else:
                streams = [i for i in range(k) if world[i][0] in ("upto", "append", "reversed", "tail", "same")]
                arguments.append(("of", chance.choice(streams if chance.random() < 0.9 else range(k))))
        world.append((f, tuple(arguments)))
    return tuple(world)

BOX_PARAMETERS = (
    ("box", 1), ("both", 2), ("heavy", 1), ("heavy", 1), ("more", 1), ("nest", 1), ("ask", 1), ("ask", 1), ("pick", 2),
    ("use", 2), ("stop", 1),
)


def boxes_world(chance, most):
    """A world of BOXES with up to that many deeds; most of them are given what they can use."""
    world = []
    for k in range(chance.randrange(most + 1)):
        f, many = chance.choice(BOX_PARAMETERS) if k and chance.random() < 0.85 else ("box", 1)
        boxes = [i for i in range(k) if world[i][0] in ("box", "both", "more", "nest", "heavy", "pick")]
        if f == "box" or not boxes or chance.random() < 0.05:
            arguments = tuple(chance.randrange(9) for _ in range(many))
        else:
            arguments = tuple(("of", chance.choice(boxes)) for _ in range(many))
        world.append((f, arguments))
    return tuple(world)


def program_of(expression):
    return (("f", ("x",), expression),)


def text_of(expression_text):
    return "(def f (x) " + expression_text + ")"


def wrapped(e, text):
    """The expression e in each place of each form, with the texts."""
    return (
        (("call", "f", (e,)), "(f " + text + ")"),
        (("call", "f", (ONE, e)), "(f 1 " + text + ")"),
        (("make", "T", (e, ONE)), "(T " + text + " 1)"),
        (("case", e, (("T", (), ONE),)), "(case " + text + " ((T) 1))"),
        (("case", ONE, (("T", ("y",), e),)), "(case 1 ((T y) " + text + "))"),
        (("case", ONE, (("T", (), ONE), ("U", (), e))), "(case 1 ((T) 1) ((U) " + text + "))"),
        (("let", "y", e, ONE), "(let y " + text + " 1)"),
        (("let", "y", ONE, e), "(let y 1 " + text + ")"),
        (("if", "<", e, ONE, ONE, ONE), "(if < " + text + " 1 1 1)"),
        (("if", "<", ONE, e, ONE, ONE), "(if < 1 " + text + " 1 1)"),
        (("if", "=", ONE, ONE, e, ONE), "(if = 1 1 " + text + " 1)"),
        (("if", "=", ONE, ONE, ONE, e), "(if = 1 1 1 " + text + ")"),
        (("op", "+", e, ONE), "(+ " + text + " 1)"),
        (("op", "*", ONE, e), "(* 1 " + text + ")"),
        (("delay", e), "(delay " + text + ")"),
        (("force", e), "(force " + text + ")"),
    )


def a_desk():
    """A desk that is equal to no other one: any value may hold some."""
    return Desk(BOX)


ANY_VALUES = (
    None, True, False, 0, 1, -1, 10 ** 39, "", "x", "f", "(def f () 1)", "x" * 3000, "(" * 3000, " \n",
    (), (1,), [], [1], {}, {"f": 1}, {1: [2]}, [()], ((),), ([],), ({},), (None,), ("f",), (("f",),),
    (("f", (), ("int", 1)), None), [("f", (), ("int", 1))], ("f", (), ("int", 1)), ("int", 1),
    DEEP_LIST, (DEEP_LIST,), (("f", (), DEEP_LIST),), (("f", (), {}),), (("f", {}, ONE),), (({}, (), ONE),),
    (("f", (), (["int"], 1)),), (("f", (), ({}, 1)),), (("f", (), ((), 1)),), tuple(range(1999)),
    (("f", (), ("int", {})),), (("f", (), ("name", [])),), (("f", (), ("call", [], ())),), a_desk(), (a_desk(),),
    (("f", (), (a_desk(), 1)),), (("f", (), ("op", a_desk(), ONE, ONE)),), (("f", (), ("if", [], ONE, ONE, ONE, ONE)),),
    (BOX,), [BOX], list(BOX), BOX + (1,), BOX[0], (BOX_TEXT,), BOX + (BOX,),
)


def outcome(function, *arguments, **named):
    """What a call does: ("returned", value) or ("raised", name of the error's class, its thing)."""
    try:
        return ("returned", function(*arguments, **named))
    except Exception as e:
        return ("raised", type(e).__name__, getattr(e, "thing", e))


def frozen(value):
    """A text that differs for values that differ in a part or in the kind of a part."""
    return repr(value)


def copied(value):
    return copy.deepcopy(value)


def nested(depth):
    """An expression whose expressions are nested that deep, with brackets as deep as they get."""
    e = X
    for _ in range(depth - 1):
        e = ("case", X, (("T", (), e),))
    return e


def nested_text(depth):
    return "(case x ((T) " * (depth - 1) + "x" + "))" * (depth - 1)
