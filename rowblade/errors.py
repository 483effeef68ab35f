"""The refusals: one class for each, all under BladeError."""


class BladeError(ValueError):
    pass


class NoPattern(BladeError):
    pass


class NotThat(BladeError):
    pass


class NotWoven(BladeError):
    pass


class Finished(BladeError):
    pass


class NoLine(BladeError):
    def __init__(self, row):
        self.row = row


class TwoMarks(BladeError):
    def __init__(self, row):
        self.row = row


class NoMark(BladeError):
    def __init__(self, row):
        self.row = row


class Endless(BladeError):
    def __init__(self, row, line):
        self.row = row
        self.line = line
