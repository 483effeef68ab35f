"""Programs, shown as their text."""

from rowblade.lines import Add, Always, Bring, Done, Drop, FromTo, Go, Join, Last, Like, Mark, Not, Pile, Print, RowIs
from rowblade.lines import Say, Soon, Swap
from rowblade.patterns import written


def shown(program):
    return "".join([line_text(line) + "\n" for line in program.lines])


def line_text(line):
    if isinstance(line.cond, Always):
        return deed_text(line.deed)
    return cond_text(line.cond) + ": " + deed_text(line.deed)


def cond_text(cond):
    if isinstance(cond, RowIs):
        return "row " + str(cond.number)
    if isinstance(cond, Last):
        return "last"
    if isinstance(cond, Like):
        return pattern_text(cond.pattern)
    if isinstance(cond, Soon):
        return "soon " + str(cond.many) + " " + pattern_text(cond.pattern)
    if isinstance(cond, FromTo):
        return "from " + cond_text(cond.first) + " to " + cond_text(cond.second)
    if isinstance(cond, Not):
        return "not " + cond_text(cond.inner)
    return "end"


def deed_text(deed):
    if isinstance(deed, Mark):
        return "mark " + deed.name
    if isinstance(deed, Drop):
        return "drop"
    if isinstance(deed, Print):
        return "print"
    if isinstance(deed, Done):
        return "done"
    if isinstance(deed, Say):
        return "say " + quoted(deed.words)
    if isinstance(deed, Swap):
        return ("swap every " if deed.every else "swap ") + pattern_text(deed.pattern) + " " + quoted(deed.words)
    if isinstance(deed, Join):
        return "join " + str(deed.most)
    if isinstance(deed, Pile):
        return "pile " + deed.shelf + ("" if deed.most is None else " " + str(deed.most))
    if isinstance(deed, Bring):
        return "bring " + deed.shelf
    if isinstance(deed, Go):
        return "go " + deed.name
    if isinstance(deed, Add):
        return "add " + str(deed.first) + " " + str(deed.second)
    return "tell"


def pattern_text(one):
    return "/" + written(one) + "/"


def quoted(words):
    return "\"" + words + "\""
