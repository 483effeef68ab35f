"""A walk as far as it has come: it is handed row by row, and goes on each time until the next one is wanted."""

from rowblade.errors import Endless
from rowblade.lines import Add, Bring, Done, Drop, End, Go, Join, Mark, Pile, Print, Say, Swap, Tell
from rowblade.pieces import every_swapped, first_swapped, number_of, word_of
from rowblade.truths import Truths


class Walker:
    def __init__(self, program):
        self.lines = list(program.lines)
        self.behind_marks = numbers_of_marks(self.lines)
        self.teller = Truths(self.lines)
        self.truths = []
        # How many lines stand ahead of the one that is to be met next.
        self.passed = 0
        # The numbers of the lines that were met since a row was taken.
        self.met = {}
        self.taken = 0
        # Between two turns the hand is None, at a join that wants a row it isn't.
        self.hand = None
        self.hand_rows = 0
        # By its name, the things on each shelf: tuples of the text and how many rows it is made of.
        self.shelves = {}
        self.sums = {}
        self.noted = []
        self.log = []
        self.wanting = False
        self.want()

    def want(self):
        self.log.append(("want", self.taken + 1))
        self.wanting = True

    # Behind are the rows of the text behind the one that is taken, as far as any truth asks for them.
    def take(self, row, behind):
        self.take_with(row.text, self.teller.told_of(row, behind))

    def take_with(self, text, truths):
        self.taken += 1
        self.log.append(("take", self.taken))
        self.hand = text if self.hand is None else self.hand + " " + text
        self.hand_rows += 1
        self.truths = truths
        self.met = {}
        self.wanting = False
        while not self.wanting:
            self.go_on()

    def go_on(self):
        if self.passed == len(self.lines):
            self.give_hand_and_end()
        else:
            self.passed += 1
            self.meet(self.lines[self.passed - 1], self.passed)

    def meet(self, line, number):
        if isinstance(line.cond, End):
            return
        if number in self.met:
            raise Endless(self.taken, number)
        self.met[number] = True
        truth = self.truths[number - 1]
        self.log.append(("meet", number, truth))
        if truth:
            self.do(line.deed, number)

    # The log goes with the rows that it tells as given, so that a long text leaves nothing of it behind.
    def hand_over(self):
        rows = given_in(self.log)
        self.log = []
        return rows

    def finish(self):
        self.find_none()
        if self.hand is not None:
            self.give_hand_and_end()
            self.find_none()
        self.log.append(("end",))
        for line in self.lines:
            if isinstance(line.cond, End):
                self.do_giving(line.deed)

    def find_none(self):
        self.log.append(("none", self.taken + 1))

    def give(self, row):
        self.log.append(("give", row))

    def end_turn(self):
        self.log.append(("over",))
        self.hand = None
        self.hand_rows = 0
        self.passed = 0
        self.want()

    def give_hand_and_end(self):
        self.give(self.hand)
        self.end_turn()

    def do(self, deed, number):
        if isinstance(deed, Drop):
            self.end_turn()
        elif isinstance(deed, Print):
            self.give(self.hand)
        elif isinstance(deed, Done):
            self.give_hand_and_end()
        elif isinstance(deed, Swap):
            self.do_swap(deed)
        elif isinstance(deed, Join):
            self.do_join(deed)
        elif isinstance(deed, Pile):
            self.do_pile(deed)
        elif isinstance(deed, Go):
            self.passed = self.behind_marks[deed.name]
        elif isinstance(deed, Add):
            self.do_add(deed, number)
        elif not isinstance(deed, Mark):
            self.do_giving(deed)

    # These are the deeds that may be done behind the last turn, too.
    def do_giving(self, deed):
        if isinstance(deed, Say):
            self.give(deed.words)
        elif isinstance(deed, Bring):
            self.do_bring(deed)
        elif isinstance(deed, Tell):
            self.do_tell()

    def do_swap(self, deed):
        if deed.every:
            self.hand = every_swapped(self.hand, deed.pattern, deed.words)
        else:
            self.hand = first_swapped(self.hand, deed.pattern, deed.words)

    def do_join(self, deed):
        if self.hand_rows >= deed.most:
            self.give_hand_and_end()
        else:
            self.want()

    def do_pile(self, deed):
        things = self.shelves.get(deed.shelf, []) + [(self.hand, self.hand_rows)]
        self.shelves[deed.shelf] = things if deed.most is None else things[-deed.most:]

    def do_bring(self, deed):
        for thing in self.shelves.get(deed.shelf, []):
            self.give(thing[0])
        self.shelves[deed.shelf] = []

    def rows_on_shelves(self):
        many = 0
        for things in self.shelves.values():
            many += sum([thing[1] for thing in things])
        return many

    def do_add(self, deed, number):
        name = word_of(self.hand, deed.first)
        word = word_of(self.hand, deed.second)
        amount = None if word is None else number_of(word)
        if name is None or amount is None:
            self.noted.append((self.taken, number))
        else:
            self.sums[name] = self.sums.get(name, 0) + amount

    def do_tell(self):
        for name in sorted(self.sums):
            self.give(name + " " + str(self.sums[name]))


def given_in(log):
    return [entry[1] for entry in log if entry[0] == "give"]


# By its name, the number of each mark, which is how many lines stand ahead of the one behind it.
def numbers_of_marks(lines):
    numbers = {}
    for number, line in enumerate(lines, start=1):
        if isinstance(line.deed, Mark):
            numbers[line.deed.name] = number
    return numbers
