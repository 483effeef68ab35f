"""A row of a program's text, read to a line.

A row is read from the left to the right: what stands next always tells what may follow, since no condition begins
like a deed, no pattern holds a stroke and no text a quote.
"""

from rowblade.errors import NoLine, NoPattern
from rowblade.lines import Add, Always, Bring, Done, Drop, End, FromTo, Go, Join, Last, Like, Line, Mark, Not, Pile
from rowblade.lines import Print, RowIs, Say, Soon, Swap, Tell
from rowblade.patterns import least_length, may_be_empty, pattern
from rowblade.signs import FIGURES, SIGNS, SMALL_LETTERS, beginning_of, made_of

COND_BEGINNINGS = ("row ", "last", "/", "soon ", "from ", "not ", "end")
MOST_ROW = 999
MOST_FIGURES = 3
MOST_SOON = 3
LEAST_JOIN = 2
MOST_SMALL = 9
MOST_LETTERS = 8
MOST_TEXT = 40


# What is still to be read of the row with this number.
class Scan:
    def __init__(self, row, number):
        self.rest = row
        self.number = number

    def refuse(self):
        raise NoLine(self.number)

    # Goes behind these words where they stand next, and tells whether they do.
    def passes(self, words):
        if not self.rest.startswith(words):
            return False
        self.rest = self.rest[len(words):]
        return True

    def must_pass(self, words):
        if not self.passes(words):
            self.refuse()

    def while_made_of(self, signs):
        taken = beginning_of(self.rest, signs)
        self.rest = self.rest[len(taken):]
        return taken

    def between(self, sign):
        self.must_pass(sign)
        place = self.rest.find(sign)
        if place == -1:
            self.refuse()
        inside = self.rest[:place]
        self.rest = self.rest[place + 1:]
        return inside


def line_of(row, number):
    scan = Scan(row, number)
    line = line_next(scan)
    if scan.rest != "" or not may_stand(line.cond, line.deed):
        scan.refuse()
    return line


def line_next(scan):
    if scan.passes("mark "):
        return Line(Always(), Mark(name_next(scan)))
    if not any([scan.rest.startswith(words) for words in COND_BEGINNINGS]):
        return Line(Always(), deed_next(scan))
    cond = cond_next(scan)
    scan.must_pass(": ")
    return Line(cond, deed_next(scan))


def cond_next(scan):
    if scan.passes("end"):
        return End()
    if scan.passes("not "):
        return Not(plain_cond_next(scan))
    return plain_cond_next(scan)


def plain_cond_next(scan):
    if scan.passes("last"):
        return Last()
    if scan.passes("soon "):
        many = number_next(scan, 1, MOST_SOON)
        scan.must_pass(" ")
        return Soon(many, pattern_next(scan))
    if scan.passes("from "):
        first = row_or_pattern_next(scan)
        scan.must_pass(" to ")
        return FromTo(first, row_or_pattern_next(scan))
    return row_or_pattern_next(scan)


def row_or_pattern_next(scan):
    if scan.passes("row "):
        return RowIs(number_next(scan, 1, MOST_ROW))
    return Like(pattern_next(scan))


def deed_next(scan):
    if scan.passes("drop"):
        return Drop()
    if scan.passes("print"):
        return Print()
    if scan.passes("done"):
        return Done()
    if scan.passes("tell"):
        return Tell()
    if scan.passes("say "):
        return Say(words_next(scan))
    if scan.passes("swap every "):
        return swap_next(scan, True)
    if scan.passes("swap "):
        return swap_next(scan, False)
    if scan.passes("join "):
        return Join(number_next(scan, LEAST_JOIN, MOST_SMALL))
    if scan.passes("pile "):
        return pile_next(scan)
    if scan.passes("bring "):
        return Bring(name_next(scan))
    if scan.passes("go "):
        return Go(name_next(scan))
    scan.must_pass("add ")
    return add_next(scan)


def swap_next(scan, every):
    one = pattern_next(scan)
    scan.must_pass(" ")
    return Swap(one, words_next(scan), every)


def pile_next(scan):
    shelf = name_next(scan)
    if not scan.passes(" "):
        return Pile(shelf, None)
    return Pile(shelf, number_next(scan, 1, MOST_SMALL))


def add_next(scan):
    first = number_next(scan, 1, MOST_SMALL)
    scan.must_pass(" ")
    return Add(first, number_next(scan, 1, MOST_SMALL))


def number_next(scan, least, most):
    figures = scan.while_made_of(FIGURES)
    if figures == "" or figures.startswith("0") or len(figures) > MOST_FIGURES:
        scan.refuse()
    number = int(figures)
    if number < least or number > most:
        scan.refuse()
    return number


def name_next(scan):
    name = scan.while_made_of(SMALL_LETTERS)
    if name == "" or len(name) > MOST_LETTERS:
        scan.refuse()
    return name


def words_next(scan):
    words = scan.between("\"")
    if len(words) > MOST_TEXT or not made_of(words, SIGNS):
        scan.refuse()
    return words


def pattern_next(scan):
    text = scan.between("/")
    try:
        return pattern(text)
    except NoPattern:
        raise NoLine(scan.number) from None


def may_stand(cond, deed):
    if isinstance(cond, End):
        return isinstance(deed, (Say, Bring, Tell))
    if isinstance(deed, Swap):
        return may_swap(deed)
    return not isinstance(deed, Tell)


def may_swap(deed):
    if may_be_empty(deed.pattern):
        return False
    return not deed.every or len(deed.words) <= least_length(deed.pattern)
