"""Programs and their texts."""

from debtsheld.errors import BadProgram, BadText
from debtsheld.forms import DIGITS, SIGNS, are_names, has_form, inner, is_name, is_tag

# Python refuses to read or write integers of more than 4,300 digits at once, so they are cut into pieces.
PIECE = 60
PIECE_SIZE = 10 ** 60


def is_program(thing):
    if not isinstance(thing, tuple) or len(thing) == 0:
        return False
    return all([is_definition(part) for part in thing])


def is_definition(thing):
    if not isinstance(thing, tuple) or len(thing) != 3:
        return False
    return is_name(thing[0]) and are_names(thing[1]) and is_expression(thing[2])


def is_expression(thing):
    waiting = [thing]
    while waiting:
        part = waiting.pop()
        if not has_form(part):
            return False
        waiting.extend(inner(part))
    return True


def program_text(program):
    if not is_program(program):
        raise BadProgram(program)
    return "\n".join([spaced(definition_marks(definition)) for definition in program])


def spaced(marks):
    return " ".join(marks).replace("( ", "(").replace(" )", ")")


def definition_marks(definition):
    """The marks of the text of a definition, in their order."""
    f, parameters, body = definition
    marks = []
    waiting = [["def", f, list(parameters), body]]
    while waiting:
        part = waiting.pop()
        if isinstance(part, tuple):
            waiting.append(text_row(part))
        elif isinstance(part, list):
            # What waits is taken from its end, so a row is put there backwards.
            waiting.extend([")", *part[::-1], "("])
        else:
            marks.append(part)
    return marks


def text_row(expression):
    """The word that an expression is in a text, or the list of what its brackets hold there.

    In it a word is a string, an expression a tuple, and what has brackets of its own a list.
    """
    form = expression[0]
    if form == "int":
        return written(expression[1])
    if form == "name":
        return expression[1]
    if form == "call" or form == "make":
        return [expression[1], *expression[2]]
    if form == "case":
        rows = [[[tag, *names], body] for tag, names, body in expression[2]]
        return ["case", expression[1], *rows]
    if form == "op":
        return list(expression[1:])
    return list(expression)


def written(n):
    """The integer n as Python writes it."""
    pieces = []
    rest = abs(n)
    while rest >= PIECE_SIZE:
        pieces.append(str(rest % PIECE_SIZE).zfill(PIECE))
        rest = rest // PIECE_SIZE
    pieces.append(str(rest))
    sign = "-" if n < 0 else ""
    return sign + "".join(pieces[::-1])


def read_program(text):
    if not isinstance(text, str):
        raise BadText(text)
    marks = marks_of(text)
    program = tuple([read_definition(node) for node in nodes_of(marks)])
    # What is read here is only a guess: it is right if it is a program with these very marks.
    if not is_program(program) or program_marks(program) != marks:
        raise BadText(text)
    return program


def marks_of(text):
    spread = text.replace("(", " ( ").replace(")", " ) ").replace("\n", " ")
    return [mark for mark in spread.split(" ") if mark != ""]


def program_marks(program):
    marks = []
    for definition in program:
        marks.extend(definition_marks(definition))
    return marks


class Node:
    """A word of a text, or the list of the nodes between two brackets, and what it is if it is an expression."""

    def __init__(self, content, expression):
        self.content = content
        self.expression = expression


def nodes_of(marks):
    """The nodes outside of all brackets; none if the brackets do not match."""
    rows = [[]]
    for mark in marks:
        if mark == "(":
            rows.append([])
        elif mark != ")":
            rows[-1].append(Node(mark, read_word(mark)))
        elif len(rows) == 1:
            return []
        else:
            row = rows.pop()
            rows[-1].append(Node(row, read_row(row)))
    return rows[0] if len(rows) == 1 else []


def read_word(word):
    digits = word.removeprefix("-")
    if digits != "" and all([sign in DIGITS for sign in digits]):
        n = read_digits(digits)
        return ("int", -n if word.startswith("-") else n)
    return ("name", word)


def read_digits(digits):
    first = len(digits) % PIECE
    n = int("0" + digits[:first])
    for at in range(first, len(digits), PIECE):
        n = n * PIECE_SIZE + int(digits[at:at + PIECE])
    return n


def read_row(row):
    """The expression that a list of nodes between two brackets is, if it is one."""
    contents = [node.content for node in row]
    expressions = tuple([node.expression for node in row])
    word = contents[0] if row else None
    if word == "case":
        branches = tuple([read_branch(node) for node in row[2:]])
        return ("case", *expressions[1:2], branches)
    if word == "let" or word == "if":
        return (word, *contents[1:2], *expressions[2:])
    if word == "delay" or word == "force":
        return (word, *expressions[1:])
    if word in SIGNS:
        return ("op", word, *expressions[1:])
    if is_tag(word):
        return ("make", word, expressions[1:])
    return ("call", word, expressions[1:])


def read_branch(node):
    """The branch that a node is, or None if it is no list of a list and something else."""
    if not is_row(node, 2) or not isinstance(node.content[0].content, list):
        return None
    head = words_of(node.content[0])
    return (*head[:1], head[1:], node.content[1].expression)


def read_definition(node):
    """The definition that a node is, or None if it has not its four parts."""
    if not is_row(node, 4) or not isinstance(node.content[2].content, list):
        return None
    f = node.content[1].content
    return (f, words_of(node.content[2]), node.content[3].expression)


def is_row(node, size):
    return isinstance(node.content, list) and len(node.content) == size


def words_of(node):
    return tuple([part.content for part in node.content])
