"""Section 14: a desk's lines and its answers."""

import unittest

from keptagain.benches import Bench
from keptagain.desk import Desk
from keptagain.errors import BadJournal, BadNumber, BadTask, NotOn, NothingToRedo, NothingToUndo
from keptagain.journals import journal

from makers import Keeper, Maker
from runs import any_values, refused
from test_benches import COUNT, do

TEXT = "text 1\n(tell 1) (tell '(a b)) (fail '(c d))\ninputs 0\ndeeds"


class Made(unittest.TestCase):

    def test_of_a_journal(self):
        desk = Desk(TEXT + "\ngoes 1")
        self.assertIs(type(desk.bench), Bench)
        self.assertEqual((journal(desk.bench), desk.bench.deeds), (TEXT + "\ngoes 1", 1))
        self.assertEqual(Desk(text=TEXT).bench.deeds, 0)

    def test_bad_journal(self):
        for value in any_values():
            if not isinstance(value, str):
                self.assertEqual(refused(Desk, value), (BadJournal, 0))
        for text, number in (("", 1), ("text 1", 2), (TEXT + "\nundo", 5), (TEXT + "\nrows 0", 5), (TEXT + "\n", 5)):
            self.assertEqual(refused(Desk, text), (BadJournal, number))

    def test_the_very_bench_at_which_lines_are_done(self):
        desk = Desk(TEXT)
        bench = desk.bench
        desk.say("rows 5")
        self.assertIs(desk.bench, bench)
        bench.steps(2)
        self.assertEqual((desk.say("undo"), bench.deeds, desk.say(line="undo"), bench.deeds), ("done", 1, "done", 0))


class Answers(unittest.TestCase):

    def check(self, desk, *lines):
        for line, answer in lines:
            self.assertEqual(desk.say(line), answer, line)

    def test_each(self):
        self.check(Desk(TEXT), ("turns", "0"), ("depth", "1"), ("told", "none"), ("ending", "on"), ("rows 1", "1"), ("goes 1", "1"), ("turns", "1"),
                   ("told", "1"), ("goes 1", "1"), ("told", "1 ; (a b)"), ("collect", "0"), ("undo", "done"), ("undo", "done"), ("told", "1"),
                   ("redo", "done"), ("told", "1 ; (a b)"), ("rows 500", "4"), ("ending", "fault (c d)"), ("depth", "1"), ("turns", "3"))

    def test_ended(self):
        desk = Desk("text 1\n(def f (fn (n) (if (less n 1) 0 (add 1 (f (sub n 1)))))) (list (f 5))\ninputs 0\ndeeds")
        self.check(desk, ("goes 10", "10"), ("depth", "5"), ("goes 500", "13"), ("ending", "ended (5)"), ("depth", "0"), ("told", "none"))

    def test_none_that_was_told(self):
        self.check(Desk("text 1\n(tell none) (tell 'on)\ninputs 0\ndeeds"), ("told", "none"), ("rows 500", "9"), ("told", "none ; on"))

    def test_things_that_went(self):
        self.check(Desk("text 1\n(list 1 2 3) 5\ninputs 0\ndeeds"), ("goes 1", "1"), ("rows 1", "1"), ("collect", "3"), ("collect", "0"))

    def test_fewer_rows_than_said(self):
        self.check(Desk("text 1\n5\ninputs 0\ndeeds"), ("rows 500", "4"), ("ending", "ended 5"))
        self.check(Desk("text 1\n5\ninputs 0\ndeeds"), ("goes 500", "0"), ("ending", "ended 5"))

    def test_the_bench_raises(self):
        desk = Desk(TEXT)
        for line, error in (("undo", (NothingToUndo, None)), ("redo", (NothingToRedo, None)), ("rows 0", (BadNumber, 0)), ("rows 501", (BadNumber, 501)),
                            ("goes -7", (BadNumber, -7)), ("goes 0", (BadNumber, 0)), ("rows -1", (BadNumber, -1))):
            self.assertEqual(refused(desk.say, line), error)
        number = int("9" * 4000)
        self.assertEqual(refused(desk.say, "rows " + "9" * 4000), (BadNumber, number))
        self.assertEqual(refused(desk.say, "goes -" + "9" * 4000), (BadNumber, -number))
        desk.say("rows 500")
        for line in ("rows 1", "goes 1", "collect"):
            self.assertEqual(refused(desk.say, line), (NotOn, ("fault", "(c d)")))
        self.assertEqual(refused(desk.say, "rows 0"), (BadNumber, 0))
        self.assertEqual(desk.bench.deeds, 1)


class BadTasks(unittest.TestCase):

    def test_none_of_these_forms(self):
        desk = Desk(TEXT)
        desk.say("rows 3")
        for line in ("", " ", "rows", "goes", "rows ", "rows  1", " rows 1", "rows 1 ", "rows 01", "rows -0", "rows +1", "rows 1.0", "rows x", "rows 1 1",
                     "rows\n1", "rows 1\n", "\n", "collect ", " collect", "collect 1", "undo 1", "redo\n", "told ", "Told", "ending on", "turns 0", "depth\n",
                     "rows 1\nrows 1", "step", "steps 1", "deeds", "image", "rows '1", "rows --1", "rows -", "rows 1_0", "none", "keep", "rows\t1"):
            self.assertEqual(refused(desk.say, line), (BadTask, line))
        self.assertEqual((desk.bench.deeds, desk.bench.machine().rows), (1, 3))

    def test_no_string(self):
        desk = Desk(TEXT)
        for value in any_values() + (("undo",), ["undo"], b"undo"):
            if not isinstance(value, str) or value not in ("told",):
                self.assertEqual(refused(desk.say, value), (BadTask, value))


class Drawn(unittest.TestCase):

    def test_drawn_lines_right_and_wrong(self):
        for seed in range(60):
            maker = (Maker, Keeper)[seed % 2](seed)
            text, chance = maker.text(), maker.random
            bench = Bench(text, ())
            desk = Desk(journal(bench))
            for _ in range(40):
                line = chance.choice(("rows 1", "rows 9", "goes 1", "goes 6", "collect", "undo", "redo", "told", "ending", "turns", "depth", "rows 0",
                                      "goes 501", "rows", "collect 1", "x"))
                self.assertEqual(outcome(desk.say, line), outcome(self.expected, bench, line), (text, line))
                self.assertEqual(desk.bench, bench)

    def expected(self, bench, line):
        word, _, number = line.partition(" ")
        if line in ("undo", "redo"):
            getattr(bench, line)()
            return "done"
        if line in ("told", "ending", "turns", "depth"):
            return {"told": " ; ".join(bench.told) or "none", "ending": " ".join(bench.ending or ("on",)), "turns": str(bench.turns),
                    "depth": str(len(bench))}[line]
        if line == "collect":
            return str(do(bench, "collect"))
        if word in ("rows", "goes") and number.isdigit():
            return str(do(bench, word, int(number)))
        raise BadTask(line)


def outcome(call, *given):
    """What a call returns, or its error."""
    found = []
    error = refused(lambda: found.append(call(*given)))
    return found if error is None else error


class Long(unittest.TestCase):

    def test_a_long_day(self):
        desk = Desk("text 1\n" + COUNT + "\ninputs 0\ndeeds")
        answers = []
        while desk.say("ending") == "on":
            answers.append(desk.say("rows 3"))
        self.assertEqual(desk.say("told"), "8 ; 7 ; 6 ; 5 ; 4 ; 3 ; 2 ; 1")
        for _ in answers:
            desk.say("undo")
        self.assertEqual((desk.say("turns"), desk.say("told")), ("0", "none"))
        for _ in answers:
            desk.say("redo")
        self.assertEqual(desk.say("ending"), "ended done")


if __name__ == "__main__":
    unittest.main()
