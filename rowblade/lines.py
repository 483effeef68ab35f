"""What programs are made of: lines, each with a condition and a deed."""


class Program:
    def __init__(self, lines):
        # A copy, so that what becomes of the list handed in changes nothing of the program.
        self.lines = list(lines)


class Line:
    def __init__(self, cond, deed):
        self.cond = cond
        self.deed = deed


class Cond:
    pass


class Always(Cond):
    pass


class RowIs(Cond):
    def __init__(self, number):
        self.number = number


class Last(Cond):
    pass


class Like(Cond):
    def __init__(self, pattern):
        self.pattern = pattern


class Soon(Cond):
    def __init__(self, many, pattern):
        self.many = many
        self.pattern = pattern


class FromTo(Cond):
    def __init__(self, first, second):
        self.first = first
        self.second = second


class Not(Cond):
    def __init__(self, inner):
        self.inner = inner


class End(Cond):
    pass


class Deed:
    pass


class Mark(Deed):
    def __init__(self, name):
        self.name = name


class Drop(Deed):
    pass


class Print(Deed):
    pass


class Done(Deed):
    pass


class Say(Deed):
    def __init__(self, words):
        self.words = words


class Swap(Deed):
    def __init__(self, pattern, words, every):
        self.pattern = pattern
        self.words = words
        self.every = every


class Join(Deed):
    def __init__(self, most):
        self.most = most


class Pile(Deed):
    def __init__(self, shelf, most):
        self.shelf = shelf
        self.most = most


class Bring(Deed):
    def __init__(self, shelf):
        self.shelf = shelf


class Go(Deed):
    def __init__(self, name):
        self.name = name


class Add(Deed):
    def __init__(self, first, second):
        self.first = first
        self.second = second


class Tell(Deed):
    pass
