"""Programs one behind the other, points 2 and 40."""

import unittest

from helpers import text_of
from madeup import Bounded, MadeUp
from oracle import plain_walk
from rowblade.blade import Blade
from rowblade.chain import Chain, through
from rowblade.errors import BladeError, Endless, Finished
from rowblade.kinds import kinds
from rowblade.looker import needed
from rowblade.reading import read


def programs_of(*texts):
    return [read(text) for text in texts]


def chain_of(*texts):
    return Chain(programs_of(*texts))


def plain_through(texts, text):
    """The rows that the last walk of the tests' own gives, and the text made of them; None where one is refused."""
    for program in texts:
        told = plain_walk(program, text)
        if told[0] == "endless":
            return None
        rows, ended = told[0], text == "" or text.endswith("\n")
        text = text_of(rows)
        if rows and rows[-1] and not ended:
            text = text[:-1]
    return rows, text


class ThroughTest(unittest.TestCase):
    def check(self, texts, text, told):
        with self.subTest(texts=texts, text=text):
            self.assertEqual(through(programs_of(*texts), text), told)

    def test_one_program(self):
        self.check([""], "a\nb", "a\nb")
        self.check(["print"], "a", "a\na")
        self.check(["drop"], "a\n", "")

    def test_in_order(self):
        self.check(["swap /a/ \"b\"", "swap /b/ \"c\""], "a\nb\n", "c\nc\n")
        self.check(["swap /b/ \"c\"", "swap /a/ \"b\""], "a\nb\n", "b\nc\n")
        self.check(["swap /a/ \"b\"", "swap /b/ \"c\"", "swap /c/ \"d\"", "/d/: print"], "a\nx", "d\nd\nx")

    def test_the_same_one_twice(self):
        program = read("print")
        self.assertEqual(through([program, program], "a\n"), "a\na\na\na\n")
        self.assertEqual(through([program] * 4, "a"), "\n".join("a" * 16))

    def test_the_next_one_sees_what_the_one_ahead_makes(self):
        self.check(["row 1: drop", "row 1: drop"], "a\nb\nc\n", "c\n")
        self.check(["/b/: drop", "last: say \"x\""], "a\nb", "x\na")
        self.check(["join 2", "swap / / \"\"", "soon 1 /cd/: drop"], "a\nb\nc\nd\n", "cd\n")
        self.check(["end: say \"3 4\"", "add 1 2\nend: tell"], "", "3 4\n3 4\n")

    def test_ended_or_not(self):
        self.check(["/b/: drop", ""], "a\nb", "a")
        # The first makes a text that ends with an empty row, so it is ended for the second.
        self.check(["/b/: drop", "end: say \"x\""], "\nb", "\nx\n")
        self.check(["swap /a/ \"\"", "end: say \"x\""], "a", "\nx\n")
        # The first makes a text of no rows, which counts as ended.
        self.check(["drop", "end: say \"x\""], "a", "x\n")
        self.check(["drop", "last: say \"x\""], "a", "")
        self.check(["print", "end: say \"x\""], "a", "a\na\nx")
        self.check(["drop", "drop"], "", "")

    def test_endless(self):
        ring, plain_one = "mark m\n/b/: go m\n", "print"
        for texts in ([ring], [ring, plain_one], [plain_one, ring], [plain_one, plain_one, plain_one, ring]):
            with self.assertRaises(BladeError) as caught:
                through(programs_of(*texts), "a\nb\n")
            self.assertIs(type(caught.exception), Endless)
        self.check(["/b/: drop", ring], "a\nb\n", "a\n")

    def test_by_their_arguments(self):
        self.assertEqual(through(programs=[read("print")], text="a"), "a\na")
        self.assertEqual(Chain(programs=[read("print")]).feed(piece="a\n"), ["a", "a"])


class ChainTest(unittest.TestCase):
    def test_what_each_piece_gives(self):
        chain = chain_of("print", "join 2", "last: say \"x\"")
        self.assertEqual([chain.feed(piece) for piece in ("a", "\n", "b\nc\n", "")], [[], [], ["a a", "b b"], []])
        self.assertEqual(chain.finish(), ["x", "c c"])

    def test_one_program(self):
        chain = chain_of("/b/: drop\nend: say \"x\"\n")
        self.assertEqual([chain.feed(piece) for piece in ("a\nb", "\nc")], [["a"], []])
        self.assertEqual(chain.finish(), ["c", "x"])

    def test_rows_at_the_finish(self):
        chain = chain_of("end: say \"y\"", "last: say \"x\"\nend: say \"z\"", "swap /y/ \"w\"")
        self.assertEqual(chain.feed("a\n"), [])
        self.assertEqual(chain.finish(), ["a", "x", "w", "z"])
        self.assertEqual(chain_of("drop", "end: say \"x\"").finish(), ["x"])
        self.assertEqual(chain_of("", "").finish(), [])

    def test_a_last_row_that_is_empty_or_not_ended(self):
        chain = chain_of("swap /a/ \"\"", "/^$/: say \"x\"")
        self.assertEqual(chain.feed("b\na"), ["b"])
        self.assertEqual(chain.finish(), ["x", ""])

    def test_the_same_one_twice(self):
        program = read("join 2\nfrom /a/ to /z/: print\n")
        chain = Chain([program, program])
        self.assertEqual([chain.feed(row + "\n") for row in "abcd"], [[], ["a b a b"] * 2, [], ["c d c d"] * 2])

    def test_the_kinds_of_what_is_told(self):
        chain = chain_of("print", "print")
        self.assertEqual([type(part) for part in (chain.feed("a\n"), chain.kept(), chain.finish())], [list, int, list])

    def test_what_is_told_may_be_changed(self):
        chain = chain_of("pile x\nend: bring x", "pile y\nend: bring y")
        chain.feed("a\n").clear()
        chain.feed("b\n").append("more")
        self.assertEqual(chain.finish(), ["a", "b", "a", "b", "a", "b"])

    def test_finished(self):
        for texts in (["print"], ["", "last: drop", "join 2"]):
            chain = chain_of(*texts)
            chain.feed("a\nb")
            chain.finish()
            for again in range(2):
                for deed in (lambda: chain.feed("c\n"), lambda: chain.feed(""), chain.finish):
                    with self.assertRaises(BladeError) as caught:
                        deed()
                    self.assertIs(type(caught.exception), Finished)

    def test_the_list_changed_behind_the_making(self):
        programs = programs_of("print", "swap /a/ \"b\"")
        chain = Chain(programs)
        programs.clear()
        programs.append(read("drop"))
        self.assertEqual(chain.feed("a\n"), ["b", "b"])
        programs[0] = read("say \"x\"")
        self.assertEqual(chain.feed("a\n"), ["b", "b"])
        self.assertEqual(chain.finish(), [])

    def test_the_list_stays(self):
        programs = programs_of("print", "drop")
        before = list(programs)
        chain = Chain(programs)
        chain.feed("a\n")
        chain.finish()
        through(programs, "a\n")
        self.assertEqual(programs, before)

    def test_two_chains_of_the_same_programs(self):
        programs = programs_of("pile x\nend: bring x", "join 2")
        first, second = Chain(programs), Chain(programs)
        self.assertEqual((first.feed("a\n"), second.feed("b\n")), ([], []))
        self.assertEqual((first.feed("c\n"), second.finish()), (["a c"], ["b b"]))

    def test_endless(self):
        ring = "mark m\n/b/: go m\n"
        for texts, pieces in [
            ([ring, ""], ["a\n", "b\n"]), (["", ring], ["a\n", "b\n"]), (["", "", "", ring], ["a\n", "b", "\n"]),
            (["swap /a/ \"b\"", ring], ["c\n", "a\n"]), (["print", "join 2", ring], ["a\n", "c\n", "b\n"]),
            (["last: drop", ring], ["b\n", "c\n"]),
        ]:
            with self.subTest(texts=texts):
                chain = chain_of(*texts)
                for piece in pieces[:-1]:
                    chain.feed(piece)
                with self.assertRaises(BladeError) as caught:
                    chain.feed(pieces[-1])
                self.assertIs(type(caught.exception), Endless)

    def test_endless_at_the_finish(self):
        ring = "mark m\n/b/: go m\n"
        for texts, pieces in [
            ([ring, ""], ["a\n", "b"]), (["", ring], ["a\n", "b"]), (["last: print", ring], ["a\n", "b\n"]),
            (["end: say \"b\"", ring], ["a\n"]), (["", "mark m\nlast: go m\n"], ["a\n"]), (["", "join 2", "", ring], ["b\n"]),
        ]:
            with self.subTest(texts=texts):
                chain = chain_of(*texts)
                for piece in pieces:
                    chain.feed(piece)
                with self.assertRaises(BladeError) as caught:
                    chain.finish()
                self.assertIs(type(caught.exception), Endless)


class KeptTest(unittest.TestCase):
    def check(self, texts, pieces, kept):
        chain = chain_of(*texts)
        told = [chain.kept()]
        for piece in pieces:
            chain.feed(piece)
            told.append(chain.kept())
        self.assertEqual(told, kept)

    def test_together(self):
        self.check(["", ""], ["a\n", "b"], [0, 0, 0])
        self.check(["last: drop", "last: drop"], ["a\n", "b\n", "c\n"], [0, 1, 2, 2])
        self.check(["join 2", "pile x 2", "soon 2 /z/: drop"], list("a\nb\nc\nd\n"), [0, 0, 1, 1, 2, 2, 3, 3, 4])
        self.check(["pile x", "pile x"], ["a\n", "b\n"], [0, 2, 4])
        self.check(["print"] * 3 + ["pile x"], ["a\n"], [0, 8])

    def test_never_more_than_the_most_together(self):
        made_up = Bounded(40)
        tried = 0
        for again in range(150):
            programs, rows, most = [], {"", "a", "b", "ab"}, 0
            for one in range(made_up.chance.randint(1, 4)):
                patterns, lines = made_up.program()
                told = needed(read(lines))
                if told[0] == "most":
                    programs.append(read(lines))
                    rows |= {row for truths, row in kinds(patterns)}
                    most += told[1]
            if not programs:
                continue
            chain = Chain(programs)
            try:
                for at in range(25):
                    chain.feed(made_up.pick(sorted(rows)) + "\n")
                    self.assertLessEqual(chain.kept(), most)
                    tried += 1
            except Endless:
                pass
        self.assertGreater(tried, 1000)


class ManyChainsTest(unittest.TestCase):
    def feed_one_by_one(self, programs, pieces):
        """What each piece and the finish give, by blades of which each is fed what the one ahead gives."""
        blades = [Blade(program) for program in programs]
        for piece in list(pieces) + [None]:
            rows = blades[0].finish() if piece is None else blades[0].feed(piece)
            for blade in blades[1:]:
                rows = [given for row in rows for given in blade.feed(row + "\n")]
                rows += blade.finish() if piece is None else []
            yield rows, sum(blade.kept() for blade in blades)

    def test_many_chains(self):
        made_up = MadeUp(41)
        refused = 0
        for again in range(1200):
            texts = [made_up.program() for one in range(made_up.chance.randint(1, 4))]
            if again % 3 == 0:
                texts[-1] = texts[0]
            text = made_up.text(6)
            programs, pieces = programs_of(*texts), made_up.pieces(text)
            told = plain_through(texts, text)
            with self.subTest(texts=texts, pieces=pieces):
                if told is None:
                    refused += 1
                    self.refused(programs, text, pieces)
                    continue
                self.assertEqual(through(programs, text), told[1])
                chain, given = Chain(programs), []
                for piece, (rows, kept) in zip(pieces + [None], self.feed_one_by_one(programs, pieces)):
                    given.append(chain.finish() if piece is None else chain.feed(piece))
                    self.assertEqual(given[-1], rows)
                    if piece is not None:
                        self.assertEqual(chain.kept(), kept)
                self.assertEqual(sum(given, []), told[0])
        self.assertTrue(100 < refused < 900)

    def refused(self, programs, text, pieces):
        with self.assertRaises(Endless):
            through(programs, text)
        chain = Chain(programs)
        with self.assertRaises(Endless):
            for piece in pieces:
                chain.feed(piece)
            chain.finish()


if __name__ == "__main__":
    unittest.main()
