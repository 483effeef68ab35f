"""What the tests of programs share."""

import copy

from rowblade.lines import Cond, Deed, Line, Program
from rowblade.reading import read
from rowblade.walk import walk


def plain(thing):
    """A line, a cond or a deed as tuples: its class by name, and its fields."""
    if isinstance(thing, (Line, Cond, Deed)):
        return (type(thing).__name__, *(plain(value) for value in vars(thing).values()))
    return thing


def rebuilt(program):
    """The program made once more of its parts."""
    return Program([Line(rebuilt_part(line.cond), rebuilt_part(line.deed)) for line in program.lines])


def rebuilt_part(thing):
    if isinstance(thing, (Cond, Deed)):
        return type(thing)(*(rebuilt_part(value) for value in vars(thing).values()))
    return copy.deepcopy(thing)


def text_of(rows):
    return "".join(row + "\n" for row in rows)


def walked(lines, rows):
    """(given, boxes, faults, log) of a program, told by its lines, over a text, told by its rows."""
    return walk(read(text_of(lines)), text_of(rows))


def given(lines, rows):
    return walked(lines, rows)[0]


def brief(log):
    """A log as short texts: a truth is + or -."""
    told = []
    for entry in log:
        parts = ["+" if part is True else "-" if part is False else str(part) for part in entry]
        told.append(" ".join(parts))
    return told


def truths(lines, rows, line=1):
    """The truths of one line at each row taken, as + and -; each row is to be one turn that meets it."""
    log = walked(lines, rows)[3]
    return "".join("+" if entry[2] else "-" for entry in log if entry[:2] == ("meet", line))
