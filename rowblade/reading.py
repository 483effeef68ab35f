"""Programs, read from their text."""

from rowblade.errors import NoLine, NoMark, TwoMarks
from rowblade.linereading import line_of
from rowblade.lines import Go, Mark, Program
from rowblade.rows import cut

MOST_LINES = 24


def read(text):
    lines = lines_of(cut(text)[0])
    marks = marks_of(lines)
    refuse_go_without_mark(lines, marks)
    return Program(lines)


def lines_of(rows):
    lines = []
    for number, row in enumerate(rows, start=1):
        if number > MOST_LINES:
            raise NoLine(number)
        lines.append(line_of(row, number))
    return lines


def marks_of(lines):
    marks = {}
    for number, line in enumerate(lines, start=1):
        if isinstance(line.deed, Mark):
            if line.deed.name in marks:
                raise TwoMarks(number)
            marks[line.deed.name] = True
    return marks


def refuse_go_without_mark(lines, marks):
    for number, line in enumerate(lines, start=1):
        if isinstance(line.deed, Go) and line.deed.name not in marks:
            raise NoMark(number)
