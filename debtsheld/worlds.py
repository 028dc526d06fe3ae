"""Worlds of deeds: their traces, outcomes and steps, the lines of deeds and the parts of worlds."""

from debtsheld.checker import is_checked
from debtsheld.errors import BadChecked, BadNumber, BadWorld
from debtsheld.forms import are_ascending, has_deed_form, is_integer, is_position, is_result, parameter_counts
from debtsheld.machine import Machine


def is_world(program, thing):
    if not is_checked(program):
        raise BadChecked(program)
    if not isinstance(thing, tuple):
        return False
    counts = parameter_counts(program)
    return all([is_deed(part, position, counts) for position, part in enumerate(thing)])


def is_deed(thing, position, counts):
    """Whether the thing is a deed at a position of a world, the functions having these numbers of parameters."""
    if not has_deed_form(thing):
        return False
    f, arguments = thing
    if counts.get(f) != len(arguments):
        return False
    return all([is_integer(argument) or is_result(argument, position) for argument in arguments])


def check_world(program, world):
    if not is_world(program, world):
        raise BadWorld(world)


def machine_of(program, world):
    """The machine on which the deeds of the world were done."""
    check_world(program, world)
    machine = Machine(program)
    for deed in world:
        machine.perform(deed)
    return machine


def traces(program, world):
    return tuple(machine_of(program, world).traces)


def outcomes(program, world):
    return tuple([trace[0] for trace in traces(program, world)])


def steps(program, world):
    return tuple([all_steps(trace) for trace in traces(program, world)])


def all_steps(trace):
    """The number of all steps of a deed with this trace."""
    return trace[1] + sum([work for _, work in trace[2]])


def line(program, world, k):
    check_world(program, world)
    if not is_position(k, len(world)):
        raise BadNumber(k)
    return tuple(sorted(lines_of(world)[k]))


def lines_of(world):
    """The line of each deed, as a dict with its deeds as keys."""
    lines = []
    for k, deed in enumerate(world):
        found = {k: True}
        for i in used(deed):
            found.update(lines[i])
        lines.append(found)
    return lines


def used(deed):
    """The deeds whose results a deed uses, ascending."""
    return sorted({argument[1] for argument in deed[1] if not is_integer(argument)})


def is_part(program, world, thing):
    check_world(program, world)
    if not are_ascending(thing) or not all([is_position(k, len(world)) for k in thing]):
        return False
    return all([i in thing for k in thing for i in used(world[k])])
