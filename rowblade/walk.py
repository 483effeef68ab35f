"""The walk of a program over a whole text, and the run, which tells the text that it makes."""

from rowblade.rows import cut, pasted
from rowblade.truths import text_rows
from rowblade.walker import Walker, given_in


def walk(program, text):
    rows = text_rows(cut(text)[0])
    walker = Walker(program)
    for number, row in enumerate(rows, start=1):
        walker.take(row, rows[number:])
    walker.finish()
    return (given_in(walker.log), walker.sums, walker.noted, walker.log)


def run(program, text):
    return pasted(walk(program, text)[0], cut(text)[1])
