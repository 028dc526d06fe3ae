"""Worlds that are made: slow ones for the eager queue, and branched ones."""

from debtsheld.errors import BadNumber, BadWorld
from debtsheld.forms import is_integer, is_position
from debtsheld.kinds import ANSWERING, is_kind_world
from debtsheld.worlds import used


def slow_world(n):
    if not is_integer(n) or n < 1:
        raise BadNumber(n)
    # One item is in front, and all others are behind it: each rest of this same version turns them around anew.
    puts = [("put", (("of", k), k)) for k in range(n)]
    rests = [("rest", (("of", n),))] * (2 * n - 1)
    return (("empty", ()), *puts, *rests)


def branched(kind, world, k, m):
    if not is_kind_world(kind, world):
        raise BadWorld(world)
    if not is_position(k, len(world)) or world[k][0] in ANSWERING:
        raise BadNumber(k)
    if not is_integer(m) or m < 0:
        raise BadNumber(m)
    users = tuple([deed for deed in world if k in used(deed)])
    return world + users * m
