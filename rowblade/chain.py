"""Programs one behind the other, over a whole text or over a text that comes in pieces."""

from rowblade.blade import Blade
from rowblade.walk import run


def through(programs, text):
    made = text
    for program in programs:
        made = run(program, made)
    return made


class Chain:
    def __init__(self, programs):
        self.blades = [Blade(program) for program in programs]

    def feed(self, piece):
        rows = self.blades[0].feed(piece)
        for blade in self.blades[1:]:
            rows = fed_to(blade, rows)
        return rows

    def finish(self):
        rows = self.blades[0].finish()
        for blade in self.blades[1:]:
            rows = fed_to(blade, rows) + blade.finish()
        return rows

    def kept(self):
        return sum([blade.kept() for blade in self.blades])


def fed_to(blade, rows):
    given = []
    for row in rows:
        given.extend(blade.feed(row + "\n"))
    return given
