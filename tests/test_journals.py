"""Section 14: journals, written and read back, and the first line that cannot stand."""

import random
import unittest

from keptagain.benches import Bench
from keptagain.errors import BadJournal, NotOn
from keptagain.journals import journal, read_journal

from makers import Keeper, Maker
from runs import any_values, refused
from test_benches import COUNT, do


def made(text, inputs, *deeds):
    bench = Bench(text, inputs)
    for deed in deeds:
        do(bench, *deed)
    return bench


class Written(unittest.TestCase):

    def test_its_lines(self):
        self.assertEqual(journal(made("5", ())), "text 1\n5\ninputs 0\ndeeds")
        self.assertEqual(journal(made("", ())), "text 1\n\ninputs 0\ndeeds")
        self.assertEqual(journal(made("; a\n\n5\n", (" 'a ; b", "(1 . (2))", "7" * 2500), ("rows", 1), ("collect", None), ("rows", 500))),
                         "text 4\n; a\n\n5\n\ninputs 3\n(quote a)\n(1 2)\n" + "7" * 2500 + "\ndeeds\nrows 1\ncollect\nrows 500")
        self.assertEqual(journal(bench=made(COUNT, (), ("goes", 3), ("goes", 500))).split("\n")[3:], ["deeds", "goes 3", "goes 500"])

    def test_only_what_stands(self):
        bench = made(COUNT, (), ("rows", 1), ("rows", 2), ("rows", 3))
        bench.undo()
        refused(bench.steps, 0)
        self.assertEqual(journal(bench).split("\n")[-2:], ["rows 1", "rows 2"])
        bench.tried(lambda bench: bench.goes(5))
        self.assertEqual(journal(bench).split("\n")[-2:], ["rows 1", "rows 2"])

    def test_inputs_that_were_asked_for_stay(self):
        self.assertEqual(journal(made("(ask)", ("1", "2"), ("rows", 500))).split("\n")[2:], ["inputs 2", "1", "2", "deeds", "rows 500"])

    def test_as_many_rows_as_were_asked_for(self):
        self.assertEqual(journal(made("5", (), ("goes", 7))).split("\n")[-1], "goes 7")

    def test_it_changes_nothing(self):
        bench = made(COUNT, (), ("rows", 5))
        self.assertEqual((journal(bench), bench.deeds), (journal(bench), 1))


class ReadBack(unittest.TestCase):

    def check(self, bench):
        again = read_journal(journal(bench))
        self.assertTrue(again == bench)
        self.assertEqual((journal(again), again.image(), again.told, again.turns, again.ending, len(again), again.deeds),
                         (journal(bench), bench.image(), bench.told, bench.turns, bench.ending, len(bench), bench.deeds))
        self.assertEqual(again.machine().things, bench.machine().things)
        return again

    def test_of_small_benches(self):
        for text, inputs, *deeds in (("", ()), ("5", (), ("rows", 500)), ("(tell (ask))", ("'a",), ("goes", 1), ("collect", None)),
                                     ("a\n;b\n", ("(1 . 2)", "3"), ("rows", 1)), (COUNT, (), ("goes", 20), ("collect", None), ("rows", 7))):
            self.check(made(text, inputs, *deeds))

    def test_of_drawn_benches(self):
        for seed in range(80):
            maker = (Maker, Keeper)[seed % 2](seed)
            bench = Bench(maker.text(), ("(a)", "5")[:maker.random.randint(0, 2)])
            for _ in range(maker.random.randint(0, 12)):
                refused(do, bench, maker.random.choice(("rows", "goes", "collect")), maker.random.choice((1, 3, 30)))
                if maker.random.random() < 0.2:
                    refused(bench.undo)
            self.check(bench)

    def test_its_deeds_can_be_taken_back_and_none_done_again(self):
        again = self.check(made(COUNT, (), ("rows", 3), ("goes", 2), ("collect", None)))
        self.assertIsNotNone(refused(again.redo))
        for _ in range(3):
            again.undo()
        self.assertEqual(again, Bench(COUNT, ()))

    def test_by_itself(self):
        told = journal(made(COUNT, (), ("rows", 3)))
        one, other = read_journal(text=told), read_journal(told)
        one.steps(1)
        self.assertEqual((one.deeds, other.deeds, one == other), (2, 1, False))


class FirstBadLine(unittest.TestCase):

    LINES = ["text 2", "(tell (ask))", "(tell 'b)", "inputs 2", "(a . b)", "5", "deeds", "rows 2", "collect", "goes 1", "rows 7"]

    def check(self, lines, number):
        self.assertEqual(refused(read_journal, "\n".join(lines)), (BadJournal, number), lines)

    def otherwise(self, at, *others):
        for other in others:
            self.check(self.LINES[:at - 1] + [other] + self.LINES[at:], at)

    def test_it_can_stand(self):
        bench = read_journal("\n".join(self.LINES))
        self.assertEqual((bench.told, bench.deeds, journal(bench)), (("(a . b)", "b"), 4, "\n".join(self.LINES)))
        for many in range(7, len(self.LINES)):
            self.assertEqual(read_journal("\n".join(self.LINES[:many])).deeds, many - 7)

    def test_no_string(self):
        for value in any_values() + (b"text 1", Bench("5", ())):
            if not isinstance(value, str):
                self.assertEqual(refused(read_journal, value), (BadJournal, 0))

    def test_cut_off(self):
        self.check([""], 1)
        for many in range(1, 7):
            self.check(self.LINES[:many], many + 1)

    def test_lines_of_the_text_that_lack(self):
        self.check(["text 5", "(", "5"], 4)
        self.check(["text 2", "("], 3)
        self.check(["text " + "9" * 5000, "("], 3)
        self.check(["text 1"], 2)

    def test_text(self):
        self.otherwise(1, "text", "text 0", "text -1", "text 02", "text  2", " text 2", "text 2 ", "text x", "texts 2", "", "text 2 2", "text +2", "Text 2")

    def test_a_text_that_program_refuses(self):
        for line in ("(tell (ask)", "()", "(if)", "(tell if)", "'(" + "a " * 20000 + ")", "A", "(def if 1)"):
            self.check(["text 1", line, "inputs 0", "deeds"], 1)
            self.check(["text 1", line], 1)
            self.check(["text 1", line, "inputs x"], 1)

    def test_inputs(self):
        self.otherwise(4, "inputs", "inputs 101", "inputs -1", "inputs 02", "inputs 2 ", "inputs  2", "input 2", "", "inputs x", "deeds")
        self.check(["text 1", "5", "inputs 100"] + ["7"] * 99 + ["deeds"], 104)
        self.assertEqual(read_journal("\n".join(["text 1", "5", "inputs 100"] + ["7"] * 100 + ["deeds"])).deeds, 0)

    def test_an_input_is_one_datum_printed(self):
        self.otherwise(5, "(a  . b)", "(a . b) ", " (a . b)", "a b", "", "'a", "(a . (b))", "(a", ")", "A", "; a", "07", "(a . b )")

    def test_deeds(self):
        self.otherwise(7, "deeds ", " deeds", "deed", "", "rows 2", "deeds 1")

    def test_a_deed(self):
        for at in (8, 9, 10):
            self.otherwise(at, "", "rows", "goes", "rows 0", "goes 0", "rows 501", "goes 501", "rows -1", "rows 01", "rows  1", " rows 1", "rows 1 ",
                           "rows 1 1", "collect 1", "collect ", "Collect", "undo", "redo", "told", "deeds", "rows x", "rows +1", "rows 1.", "rows '1",
                           "goes " + "9" * 5000, "steps 1")

    def test_a_deed_that_is_refused(self):
        for line in ("rows 1", "goes 1", "collect"):
            self.check(["text 1", "5", "inputs 0", "deeds", "rows 500", line], 6)
            self.check(["text 1", "(head 5)", "inputs 0", "deeds", "goes 1", line, "x"], 6)
        bench = Bench("5", ())
        bench.steps(500)
        self.assertEqual(refused(bench.steps, 1)[0], NotOn)

    def test_one_line_more(self):
        for line in ("", "deeds", "inputs 0", " ", "rows"):
            self.check(self.LINES + [line], 12)

    def test_the_first_of_several(self):
        for first in (1, 4, 5, 6, 7, 8, 9, 10, 11):
            for second in range(first, 12):
                bad = list(self.LINES)
                bad[first - 1] = bad[second - 1] = "x x"
                self.check(bad, first)

    def test_drawn_lines(self):
        chance = random.Random(3)
        words = [word for line in self.LINES for word in line.split(" ")] + ["0", "1", "-1", "501", "x", ""]
        for _ in range(500):
            lines = list(self.LINES)
            at = chance.randrange(len(lines))
            line = lines[at].split(" ")
            line[chance.randrange(len(line))] = chance.choice(words)
            lines[at] = " ".join(line)
            found = refused(read_journal, "\n".join(lines))
            if found is None:
                self.assertEqual(journal(read_journal("\n".join(lines))), "\n".join(lines))
            else:
                self.assertEqual((found[0], found[1] >= 1), (BadJournal, True))


if __name__ == "__main__":
    unittest.main()
