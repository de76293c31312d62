"""Runs: what a program does with a value, and what it meets."""

from textorlist.courses import Course
from textorlist.entries import Entries
from textorlist.errors import NoFunction
from textorlist.fates import check_bad, has_bad
from textorlist.held import Held
from textorlist.values import check_value
from textorlist.walks import copy_of


def check_function(program, name):
    """Raises NoFunction if any value is neither None nor a function of the program."""
    if name is not None and name not in program.names():
        raise NoFunction(name)


def course_of(program, value, key, name):
    """The course of a run of a function, the main one if the name is None."""
    check_function(program, name)
    check_value(value)
    course = Course(program, key)
    course.go(program.main if name is None else name, Held(copy_of(value), (), 0, False))
    return course


def line_at(lines, at):
    """The line with an index, None behind the last one."""
    return lines[at] if at < len(lines) else None


def run(program, value, *, key="", name=None):
    """The run of a function, the main one if no other is named, with a value."""
    return Run(course_of(program, value, key, name))


def trace(program, value, *, key="", name=None):
    """The numbers of the lines that the run executes, in order."""
    for line in course_of(program, value, key, name).executed:
        yield line


def first_parting(program, one, other, *, key="", name=None):
    """The first index at which the traces of two values differ, and the lines there; or None."""
    lines = course_of(program, one, key, name).executed
    beside = course_of(program, other, key, name).executed
    for at in range(max(len(lines), len(beside))):
        if line_at(lines, at) != line_at(beside, at):
            return (at, line_at(lines, at), line_at(beside, at))
    return None


class Run:
    """A run; `way` is how it ended, `line` where, unless it came to the end of its function."""

    def __init__(self, course):
        self.way = course.way
        self.line = course.line
        self._befallen = course.befallen
        self._gifts = course.gifts

    @property
    def fates(self):
        """A list of the fates that were met, (kind, line)."""
        return list(self._befallen)

    @property
    def handed(self):
        """A list of what was handed over, (taker, manner, place, wraps)."""
        return [(taker, manner, held.place, held.wraps) for taker, manner, held in self._gifts]

    def __bool__(self):
        return bool(self.way == "end")

    def entries(self, taker):
        """The entries that were handed over to a taker, in any manner."""
        return Entries([held.value() for name, _, held in self._gifts if name == taker])

    def meets(self, bad):
        """Whether a fate was met that is bad."""
        check_bad(bad)
        return has_bad(self._befallen, bad)
