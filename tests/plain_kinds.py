"""The kinds by the words of the document, written apart from the package, and worlds of them made by chance."""

# For each kind its functions: v is a version, n an integer; behind : what the function returns.
SORTS = {
    "queue": "empty:v put-vn:v first-v:n rest-v:v",
    "deque": "empty:v front-nv:v back-vn:v first-v:n rest-v:v last-v:n init-v:v",
    "list": "empty:v cons-nv:v head-v:n tail-v:v look-vn:n set-vnn:v",
    "joined": "empty:v one-n:v join-vv:v first-v:n rest-v:v",
    "heap": "empty:v insert-vn:v least-v:n without-v:v merge-vv:v",
}
KINDS = tuple(SORTS)


def functions_of(kind):
    """Triples of a function, the sorts of its arguments and what it returns."""
    found = []
    for row in SORTS[kind].split():
        head, returned = row.split(":")
        f, _, sorts = head.partition("-")
        found.append((f, sorts, returned))
    return found


def plain_meanings(kind, world):
    """Part 6.3 with Python's lists."""
    found = []
    for f, arguments in world:
        given = []
        for argument in arguments:
            if isinstance(argument, tuple):
                argument = found[argument[1]]
                argument = argument[1] if argument[0] == "version" else None
            given.append(argument)
        if None in given:
            found.append(("none",))
            continue
        items = [list(part) for part in given if isinstance(part, tuple)]
        numbers = [part for part in given if isinstance(part, int)]
        found.append(plain_meaning(kind, f, items, numbers))
    return tuple(found)


def plain_meaning(kind, f, items, numbers):
    row = items[0] if items else []
    if f in ("first", "rest", "last", "init", "head", "tail", "least", "without") and not row:
        return ("stuck",)
    if f in ("look", "set") and numbers[0] not in range(len(row)):
        return ("stuck",)
    answers = {"first": lambda: row[0], "head": lambda: row[0], "last": lambda: row.pop(), "least": lambda: min(row),
               "look": lambda: row[numbers[0]]}
    if f in answers:
        return ("answer", answers[f]())
    if f in ("put", "back", "insert", "one"):
        row.append(numbers[0])
    if f in ("front", "cons"):
        row.insert(0, numbers[0])
    if f in ("rest", "tail"):
        del row[0]
    if f == "without":
        row.remove(min(row))
    if f == "init":
        row.pop()
    if f == "set":
        row[numbers[0]] = numbers[1]
    if f in ("join", "merge"):
        row.extend(items[1])
    if kind == "heap":
        row.sort()
    return ("version", tuple(row))


def kind_world(kind, chance, most, largest=60):
    """A world of the kind; most of its versions are used by later deeds, and none has more items than that."""
    world, sizes = [], []
    for k in range(chance.randrange(most + 1)):
        versions = [i for i in range(k) if sizes[i] is not None]
        if chance.random() < 0.9:
            versions = [i for i in versions if sizes[i] >= 0]
        f, sorts, returned = chance.choice(functions_of(kind)) if versions else ("empty", "", "v")
        recent = versions[-3:] if chance.random() < 0.6 else versions
        used = [chance.choice(recent) for sort in sorts if sort == "v"]
        numbers = [chance.choice((-1, 0, 0, 1, 2, 3, 7)) for sort in sorts if sort == "n"]
        if f in ("look", "set") and chance.random() < 0.7:
            numbers[0] = chance.randrange(max(sizes[used[0]], 0) + 1)
        if sum(max(sizes[i], 0) for i in used) + len(numbers) > largest:
            f, sorts, returned, used, numbers = "empty", "", "v", [], []
        places, rest = iter(used), iter(numbers)
        world.append((f, tuple(("of", next(places)) if sort == "v" else next(rest) for sort in sorts)))
        told = plain_meanings(kind, world)[-1]
        sizes.append(None if returned == "n" else len(told[1]) if told[0] == "version" else -1)
    return tuple(world)


def lively_world(kind, chance, most=40, largest=60):
    """A world of that many deeds: some functions are frequent, and most deeds use the newest version."""
    functions = functions_of(kind)
    weights = [chance.random() ** 2 + 0.03 for _ in functions]
    elder = chance.choice((0.1, 0.3, 0.6))
    world, sizes = [], {}
    for _ in range(20 * most):
        f, sorts, returned = chance.choices(functions, weights)[0] if sizes else (chance.choice(functions[:1]))
        versions = [i for i in sizes if sizes[i] is not None or chance.random() < 0.05]
        used = [chance.choice(versions) if chance.random() < elder else versions[-1] for sort in sorts if sort == "v"]
        size = None if None in [sizes[i] for i in used] else sum(sizes[i] for i in used) + change(f)
        if len(world) == most or (size or 0) > largest:
            continue
        numbers = [chance.randrange(-1, 50) for sort in sorts if sort == "n"]
        if f in ("look", "set") and chance.random() < 0.8:
            numbers[0] = chance.randrange(-1, max(sizes[used[0]] or 0, 0) + 1)
        if returned == "v":
            stuck = size is None or size < 0 or f == "set" and numbers[0] not in range(size)
            sizes[len(world)] = None if stuck else size
        world.append((f, arguments_of(sorts, used, numbers)))
    return tuple(world)


def change(f):
    """By how much the items of what a function returns are more than those that it is given."""
    if f in ("put", "front", "back", "cons", "one", "insert"):
        return 1
    return -1 if f in ("rest", "init", "tail", "without") else 0


def arguments_of(sorts, used, numbers):
    versions, rest = iter(used), iter(numbers)
    return tuple(("of", next(versions)) if sort == "v" else next(rest) for sort in sorts)


# For each kind how its versions grow: rows of deeds, in which v is the newest version, w the first one with an item, and a
# number n + or - the number of deeds so far.
GROWTH = {
    "queue": ("put v+",),
    "deque": ("front +v", "back v+", "front +v,back v+", "back v+,back v-,back v+,front +v"),
    "list": ("cons +v",),
    "joined": ("join vw", "join wv", "join vv", "join vw,join wv,join vw", "join vw,join vv"),
    "heap": ("insert v+", "insert v-", "merge vv,insert v+", "insert v+,merge vw,insert v-", "merge vv,insert v+,merge vw", "merge wv"),
}


def grown(kind, row, deeds, largest=60):
    """The deeds that make a version by the row again and again, and this version; no version has too many items."""
    starts = {"joined": [("one", (30,))], "heap": [("empty", ()), ("insert", (("of", 0), 30))]}
    world = starts.get(kind, [("empty", ())])
    first = newest = len(world) - 1
    sizes = {newest: 1 if kind in starts else 0}
    steps = row.split(",")
    for k in range(deeds):
        f, sorts = steps[k % len(steps)].split()
        numbers = {"+": len(world), "-": 30 - len(world)}
        arguments = tuple(numbers[sort] if sort in numbers else ("of", {"v": newest, "w": first}[sort]) for sort in sorts)
        size = sum(sizes[a[1]] for a in arguments if isinstance(a, tuple)) + change(f)
        if size > largest:
            continue
        newest = len(world)
        sizes[newest] = size
        world.append((f, arguments))
    return world, newest


def again_worlds(kind, most):
    """Worlds that make a version, take some items away, and then use the version or those before it again and again."""
    users = [(f, sorts) for f, sorts, returned in functions_of(kind) if "v" in sorts]
    takers = [f for f, sorts in users if change(f) == -1]
    for row in GROWTH[kind]:
        for deeds in (0, 1, 4, most // 3, most // 2, most - 9):
            for takes in sorted({0, 1, deeds // 2, deeds}):
                for taker in takers:
                    world, newest = grown(kind, row, deeds)
                    elder = len(world) - 1
                    for _ in range(takes):
                        world.append((taker, (("of", newest),)))
                        newest = len(world) - 1
                    for back in (0, 1):
                        yield used_again(world, users, newest, elder, back, most)


def used_again(world, users, newest, elder, back, most):
    """The world with more deeds, which all use the newest version, or also the elder ones, from the last one back."""
    world = list(world)
    for k in range(most - len(world)):
        f, sorts = users[k % len(users)]
        version = max(elder - k // len(users), 0) if back else newest
        if f in ("join", "merge"):
            world.append((f, (("of", version), ("of", 0))))
        else:
            world.append((f, arguments_of(sorts, [version], [k, k])))
    return tuple(world[:most])
