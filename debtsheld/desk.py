"""A desk: a program with a world to which deeds are added, and from which they are removed again."""

from debtsheld.checker import is_checked
from debtsheld.errors import BadChecked, BadDeed, BadNumber
from debtsheld.forms import is_position, parameter_counts
from debtsheld.machine import Machine
from debtsheld.worlds import all_steps, is_deed


class Desk:
    """A checked program, a world of it, its machine, and marks: each one is a number of deeds."""

    def __init__(self, program):
        if not is_checked(program):
            raise BadChecked(program)
        self._counts = parameter_counts(program)
        self._machine = Machine(program)
        self._deeds = []
        self._marks = []

    def do(self, deed):
        if not is_deed(deed, len(self._deeds), self._counts):
            raise BadDeed(deed)
        self._deeds.append(deed)
        return self._machine.perform(deed)

    def undo(self):
        if not self._deeds:
            return False
        self._deeds.pop()
        self._machine.take_back()
        return True

    def world(self):
        return tuple(self._deeds)

    def steps(self):
        return sum([all_steps(trace) for trace in self._machine.traces])

    def mark(self):
        self._marks.append(len(self._deeds))
        return len(self._marks) - 1

    def back(self, mark):
        if not is_position(mark, len(self._marks)):
            raise BadNumber(mark)
        while len(self._deeds) > self._marks[mark]:
            self.undo()
