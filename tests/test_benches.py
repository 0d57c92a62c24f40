"""Section 14: a bench, and section 3, (h)."""

import random
import unittest

from keptagain.benches import Bench
from keptagain.collecting import collect, held, swept
from keptagain.core import Program
from keptagain.errors import (BadCore, BadForm, BadInputs, BadNumber, BadText, KeptError, NoBlock, NotOn, NothingToRedo,
                              NothingToUndo, TooLong)
from keptagain.images import image, read_image
from keptagain.journals import journal, read_journal
from keptagain.machine import Machine
from keptagain.meaning import meant

from makers import Keeper, Maker
from runs import any_values, refused, tells, told_by

COUNT = "(def c (cell 0)) (def f (fn (n) (if (less n 1) 'done (do (tell n) (put c (pair n (get c))) (keep (fn (k) (f (sub n 1)))))))) (f 8)"


def done_by_rows(bench_text, inputs, deeds):
    """A machine on which these deeds were done row by row: (word, number)."""
    machine = Machine(Program(bench_text), inputs)
    for word, number in deeds:
        if word == "collect":
            collect(machine)
        begun, rows = machine.turns, machine.rows
        while word != "collect" and machine.ending is None and {"rows": machine.rows - rows, "goes": machine.turns - begun}[word] < number:
            machine.step()
    return machine


def do(bench, word, number=None):
    return bench.collect() if word == "collect" else {"rows": bench.steps, "goes": bench.goes}[word](number)


class Standing(unittest.TestCase):

    def check_stands(self, bench, text, inputs, deeds):
        """Bench stands as a machine on which just these deeds were done."""
        machine = done_by_rows(text, inputs, deeds)
        self.assertEqual((bench.program, bench.told, bench.turns, bench.ending, bench.deeds, len(bench)),
                         (machine.program, machine.told, machine.turns, machine.ending, len(deeds), machine.depth))
        self.assertEqual(bench.image(), image(machine))
        self.assertEqual(tells(bench.machine()), tells(machine))
        lines = [word if word == "collect" else f"{word} {number}" for word, number in deeds]
        self.assertEqual(journal(bench).split("\ndeeds")[-1].split("\n")[1:], lines)


class Made(Standing):

    def test_of_a_text_and_inputs(self):
        bench = Bench(COUNT, ("(a)", "5"))
        self.check_stands(bench, COUNT, ("(a)", "5"), [])
        self.assertEqual((bench.deeds, len(bench), bench.ending, bench.told, bench.turns), (0, 1, None, (), 0))
        self.assertEqual(Bench(inputs=(), text="5"), Bench("5", ()))

    def test_what_program_raises_and_then_bad_inputs(self):
        for text, error in (("(", (BadText, (1, 2))), (None, (BadText, (0, 0))), ("()", (BadForm, 1)), ("(if)", (BadCore, (1, "if"))),
                            ("'(" + "a " * 20000 + ")", (TooLong, 1))):
            self.assertEqual(refused(Bench, text, 5), error)
        for value in any_values() + (["5"], ("5 5",), ("5",) * 101):
            if value != ():
                self.assertEqual(refused(Bench, "5", value), (BadInputs, value))
        for value in any_values():
            if not isinstance(value, str):
                self.assertEqual(refused(Bench, value, ()), (BadText, (0, 0)))

    def test_the_kinds_of_what_it_tells(self):
        bench = Bench(COUNT, ())
        for value, kind in ((bench.deeds, int), (bench.turns, int), (bench.told, tuple), (bench.image(), str), (bench.machine(), Machine),
                            (bench.program, Program), (len(bench), int)):
            self.assertIs(type(value), kind)


class Deeds(Standing):

    def test_steps(self):
        bench = Bench("(tell 1) (tell 2)", ())
        self.assertEqual([bench.steps(number) for number in (1, 3, 2)], [1, 3, 2])
        self.check_stands(bench, "(tell 1) (tell 2)", (), [("rows", 1), ("rows", 3), ("rows", 2)])
        self.assertEqual((bench.steps(500), bench.ending), (3, ("ended", "none")))
        self.assertEqual(bench.deeds, 4)

    def test_goes(self):
        bench = Bench("(list (list) (list))", ())
        self.assertEqual([bench.goes(number) for number in (1, 1)], [1, 1])
        self.check_stands(bench, "(list (list) (list))", (), [("goes", 1), ("goes", 1)])
        self.assertEqual((bench.goes(500), bench.ending, bench.turns), (1, ("ended", "(() ())"), 3))

    def test_none_behind_the_row_in_which_turns_grew(self):
        bench = Bench("(tell 1) (tell 2)", ())
        bench.goes(1)
        self.assertEqual(bench.machine().rows, 4)
        bench.goes(1)
        self.assertEqual(bench.machine().rows, 8)

    def test_goes_without_turns_up_to_the_ending(self):
        bench = Bench("1 2 3", ())
        self.assertEqual((bench.goes(1), bench.ending, bench.deeds), (0, ("ended", "3"), 1))

    def test_collect(self):
        bench = Bench(COUNT, ())
        bench.goes(10)
        machine = bench.machine()
        gone = machine.things - held(machine)
        self.assertGreater(gone, 0)
        self.assertEqual((bench.collect(), bench.machine().things, bench.deeds), (gone, held(machine), 2))
        self.assertEqual((bench.collect(), bench.deeds), (0, 3))

    def test_by_name(self):
        bench = Bench(COUNT, ())
        self.assertEqual((bench.steps(number=3), bench.goes(number=2)), (3, 2))


class Refused(Standing):

    def test_bad_number(self):
        for rows in (0, 5, 400):
            bench = Bench(COUNT, ())
            if rows:
                bench.steps(rows)
            before = journal(bench), bench.image()
            for value in any_values() + (0, 501, -1, "1", (1,)):
                for deed in (bench.steps, bench.goes):
                    self.assertEqual(refused(deed, value), (BadNumber, value))
            self.assertEqual((journal(bench), bench.image()), before)

    def test_not_on_behind_bad_number(self):
        for text, ending in (("5", ("ended", "5")), ("(head 5)", ("fault", "kind"))):
            bench = Bench(text, ())
            bench.steps(500)
            self.assertEqual(refused(bench.steps, 1), (NotOn, ending))
            self.assertEqual(refused(bench.goes, 500), (NotOn, ending))
            self.assertEqual(refused(bench.collect), (NotOn, ending))
            self.assertEqual((refused(bench.steps, 0), refused(bench.goes, 501)), ((BadNumber, 0), (BadNumber, 501)))
            self.assertEqual(bench.deeds, 1)

    def test_a_refused_one_is_none(self):
        bench = Bench(COUNT, ())
        bench.steps(3)
        bench.undo()
        refused(bench.steps, 0)
        refused(bench.goes, None)
        bench.redo()
        self.check_stands(bench, COUNT, (), [("rows", 3)])
        bench = Bench("5", ())
        bench.steps(1)
        bench.steps(500)
        bench.undo()
        bench.redo()
        self.assertEqual(refused(bench.collect)[0], NotOn)
        bench.undo()
        bench.undo()
        bench.redo()
        bench.redo()
        self.assertEqual(bench.deeds, 2)


class ForthAndBack(Standing):

    def test_undo_and_redo(self):
        bench = Bench(COUNT, ())
        deeds = [("rows", 7), ("goes", 3), ("collect", None), ("rows", 20), ("goes", 500)]
        for word, number in deeds:
            do(bench, word, number)
        for many in range(4, -1, -1):
            self.assertIsNone(bench.undo())
            self.check_stands(bench, COUNT, (), deeds[:many])
        self.assertEqual(refused(bench.undo), (NothingToUndo, None))
        for many in range(1, 6):
            self.assertIsNone(bench.redo())
            self.check_stands(bench, COUNT, (), deeds[:many])
        self.assertEqual(refused(bench.redo), (NothingToRedo, None))

    def test_nothing_to_take_back_or_to_do_again(self):
        bench = Bench("5", ())
        self.assertEqual((refused(bench.undo), refused(bench.redo)), ((NothingToUndo, None), (NothingToRedo, None)))
        bench.steps(1)
        self.assertEqual(refused(bench.redo), (NothingToRedo, None))

    def test_another_deed_lets_go_what_could_be_done_again(self):
        for deed in ("rows", "goes", "collect"):
            bench = Bench(COUNT, ())
            bench.steps(3)
            bench.steps(4)
            bench.undo()
            do(bench, deed, 1)
            self.assertEqual(refused(bench.redo), (NothingToRedo, None))
            self.check_stands(bench, COUNT, (), [("rows", 3), (deed, 1)])

    def test_what_was_asked_told_and_put_is_taken_back(self):
        text = "(def c (cell (ask))) (tell (get c)) (put c (ask)) (tell (get c))"
        bench = Bench(text, ("1", "2"))
        bench.goes(3)
        bench.goes(500)
        self.assertEqual(bench.told, ("1", "2"))
        bench.undo()
        self.check_stands(bench, text, ("1", "2"), [("goes", 3)])
        bench.goes(500)
        self.assertEqual(bench.told, ("1", "2"))

    def test_drawn_deeds(self):
        for seed in range(60):
            maker = (Maker, Keeper)[seed % 2](seed)
            text = "(def l (list (ask) (ask))) " + maker.text()
            chance, inputs = maker.random, ("(a (b))", "5")
            bench, stand, undone = Bench(text, inputs), [], []
            for _ in range(40):
                what = chance.choice(("rows", "rows", "goes", "goes", "collect", "undo", "undo", "redo", "bad"))
                number = chance.choice((1, 2, 5, 17)) if what in ("rows", "goes") else None
                if what == "bad":
                    self.assertEqual(refused(chance.choice((bench.steps, bench.goes)), 0), (BadNumber, 0))
                elif what == "undo":
                    self.assertEqual(refused(bench.undo), None if stand else (NothingToUndo, None))
                    undone += [stand.pop()] if stand else []
                elif what == "redo":
                    self.assertEqual(refused(bench.redo), None if undone else (NothingToRedo, None))
                    stand += [undone.pop()] if undone else []
                elif bench.ending is not None:
                    self.assertEqual(refused(do, bench, what, number), (NotOn, bench.ending))
                else:
                    before = done_by_rows(text, inputs, stand)
                    stand.append((what, number))
                    undone = []
                    after = done_by_rows(text, inputs, stand)
                    grown = {"rows": after.rows - before.rows, "goes": after.turns - before.turns,
                             "collect": before.things - after.things}[what]
                    self.assertEqual(do(bench, what, number), grown)
                self.check_stands(bench, text, inputs, stand)
            self.assertEqual(read_journal(journal(bench)), bench)


class ByItself(Standing):

    def test_machine(self):
        bench = Bench(COUNT, ())
        bench.goes(12)
        machine, other = bench.machine(), bench.machine()
        before = tells(machine), bench.image(), journal(bench)
        machine.run(20000)
        collect(machine)
        self.assertEqual((tells(other), bench.image(), journal(bench)), before)
        bench.goes(500)
        self.assertEqual(tells(other), before[0])
        self.assertFalse(machine == other)
        self.assertEqual((machine.ending, machine.told), (bench.ending, bench.told))

    def test_machine_has_as_many_things(self):
        bench = Bench(COUNT, ())
        bench.goes(15)
        machine = done_by_rows(COUNT, (), [("goes", 15)])
        self.assertEqual(bench.machine().things, machine.things)
        self.assertNotEqual(machine.things, held(machine))

    def test_image(self):
        bench = Bench(COUNT, ("5",))
        bench.goes(9)
        self.assertEqual(bench.image(), image(bench.machine()))
        again = read_image(bench.image())
        again.run(1000)
        bench.goes(500)
        self.assertEqual(told_by(again), told_by(bench))

    def test_copy(self):
        bench = Bench(COUNT, ("5",))
        bench.steps(4)
        bench.steps(5)
        bench.goes(2)
        bench.undo()
        other = bench.copy()
        self.assertTrue(other == bench and other is not bench)
        self.assertEqual((other.image(), other.told, len(other)), (bench.image(), bench.told, len(bench)))
        bench.collect()
        self.check_stands(other, COUNT, ("5",), [("rows", 4), ("rows", 5)])
        other.redo()
        self.check_stands(other, COUNT, ("5",), [("rows", 4), ("rows", 5), ("goes", 2)])
        self.check_stands(bench, COUNT, ("5",), [("rows", 4), ("rows", 5), ("collect", None)])
        for _ in range(3):
            other.undo()
        self.check_stands(other, COUNT, ("5",), [])
        self.check_stands(bench, COUNT, ("5",), [("rows", 4), ("rows", 5), ("collect", None)])

    def test_a_copy_is_outside_of_all_trials(self):
        bench = Bench(COUNT, ())
        kept = []

        def look(bench):
            kept.append(bench.copy())
            self.assertEqual(refused(kept[0].keep), (NoBlock, None))
            bench.keep()
        bench.tried(look)
        self.assertEqual(refused(kept[0].keep), (NoBlock, None))

    def test_equal(self):
        one, other = Bench(COUNT, ("5",)), Bench(COUNT, (" 5 ; five",))
        self.assertTrue(one == other and not one != other)
        one.steps(3)
        self.assertTrue(one != other and not one == other)
        other.steps(3)
        self.assertTrue(one == other)
        one.steps(2)
        other.steps(1)
        other.steps(1)
        self.assertEqual(one.image(), other.image())
        self.assertTrue(one != other)
        one.undo()
        other.undo()
        other.undo()
        self.assertTrue(one == other)
        self.assertTrue(Bench("5", ()) != Bench("5 ", ()) and Bench("5", ("1",)) != Bench("5", ("2",)) and Bench("5", ()) != Bench("5", ("2",)))
        self.assertTrue(Bench("a\ninputs 0", ()) != Bench("a", ()))
        for value in any_values() + (one.machine(), one.program, journal(one)):
            self.assertTrue(one != value and not one == value)

    def test_depth(self):
        bench = Bench("(def f (fn (n) (if (less n 1) 0 (add 1 (f (sub n 1)))))) (f 9)", ())
        depths = []
        while bench.ending is None:
            depths.append(len(bench))
            bench.goes(1)
        self.assertEqual(max(depths), 11)
        self.assertEqual(len(bench), 0)


class Trials(Standing):

    def setUp(self):
        self.bench = Bench(COUNT, ())
        for number in (3, 4):
            self.bench.steps(number)
        self.bench.goes(1)
        self.bench.undo()
        self.stand = [("rows", 3), ("rows", 4)]

    def check_as_ahead(self):
        self.check_stands(self.bench, COUNT, (), self.stand)
        other = self.bench.copy()
        other.redo()
        self.check_stands(other, COUNT, (), self.stand + [("goes", 1)])
        self.assertEqual(refused(other.redo), (NothingToRedo, None))
        self.assertEqual(refused(self.bench.keep), (NoBlock, None))

    def test_what_look_returned(self):
        for value in any_values():
            self.assertIs(self.bench.tried(lambda bench: value), value)
        self.assertIs(self.bench.tried(lambda bench: bench), self.bench)
        self.check_as_ahead()

    def test_not_kept(self):
        def look(bench):
            bench.undo()
            bench.goes(5)
            bench.collect()
            return bench.turns
        self.assertEqual(self.bench.tried(look), 5)
        self.check_as_ahead()
        self.assertEqual(self.bench.tried(look=look, keep=False), 5)
        for value in (1, "yes", None, [True], 2, (True,), {}):
            self.bench.tried(look, keep=value)
            self.check_as_ahead()

    def test_kept_by_the_word_keep(self):
        self.bench.tried(lambda bench: bench.goes(5), keep=True)
        self.check_stands(self.bench, COUNT, (), self.stand + [("goes", 5)])
        self.assertEqual(refused(self.bench.redo), (NothingToRedo, None))
        self.bench.undo()
        self.bench.undo()
        self.check_stands(self.bench, COUNT, (), self.stand[:1])
        self.bench.redo()
        self.bench.redo()
        self.check_stands(self.bench, COUNT, (), self.stand + [("goes", 5)])

    def test_kept_from_within(self):
        def look(bench):
            bench.undo()
            self.assertIsNone(bench.keep())
            bench.undo()
            bench.keep()
        self.bench.tried(look)
        self.check_stands(self.bench, COUNT, (), [])
        for _ in range(3):
            self.bench.redo()
        self.check_stands(self.bench, COUNT, (), self.stand + [("goes", 1)])

    def test_an_error_passes_on_and_keeps_nothing(self):
        class Odd(BaseException):
            pass
        for error in (ValueError("x"), KeptError(5), Odd(), KeyboardInterrupt()):
            def look(bench):
                bench.keep()
                bench.steps(5)
                raise error
            for keep in (True, False):
                with self.assertRaises(type(error)) as caught:
                    self.bench.tried(look, keep=keep)
                self.assertIs(caught.exception, error)
                self.check_as_ahead()
        self.assertEqual(refused(self.bench.tried, lambda bench: bench.steps(0)), (BadNumber, 0))
        self.check_as_ahead()

    def test_within_one_another(self):
        def inner(bench):
            bench.steps(2)
            bench.keep()

        def outer(bench):
            bench.steps(1)
            bench.tried(inner)
            self.check_stands(bench, COUNT, (), self.stand + [("rows", 1), ("rows", 2)])
            bench.tried(lambda bench: bench.steps(9))
            self.check_stands(bench, COUNT, (), self.stand + [("rows", 1), ("rows", 2)])
            with self.assertRaises(KeptError):
                bench.tried(failing, keep=True)
            bench.tried(lambda bench: bench.undo(), keep=True)

        def failing(bench):
            bench.keep()
            bench.undo()
            raise KeptError(0)
        self.bench.tried(outer)
        self.check_as_ahead()
        self.bench.tried(outer, keep=True)
        self.check_stands(self.bench, COUNT, (), self.stand + [("rows", 1)])
        self.bench.redo()
        self.check_stands(self.bench, COUNT, (), self.stand + [("rows", 1), ("rows", 2)])

    def test_keep_belongs_to_the_innermost(self):
        def look(bench):
            bench.steps(1)
            bench.tried(lambda bench: bench.keep())
        self.bench.tried(look)
        self.check_as_ahead()

        def other(bench):
            bench.tried(lambda bench: bench.steps(9))
            bench.keep()
            bench.steps(2)
        self.bench.tried(other)
        self.check_stands(self.bench, COUNT, (), self.stand + [("rows", 2)])

    def test_outside(self):
        self.assertEqual(refused(self.bench.keep), (NoBlock, None))
        self.bench.tried(lambda bench: bench.keep())
        self.assertEqual(refused(self.bench.keep), (NoBlock, None))

    def test_undo_and_redo_go_on_to_what_was_done_ahead(self):
        def look(bench):
            bench.redo()
            self.assertEqual(refused(bench.redo), (NothingToRedo, None))
            for _ in range(3):
                bench.undo()
            self.assertEqual(refused(bench.undo), (NothingToUndo, None))
            return bench.deeds
        self.assertEqual(self.bench.tried(look), 0)
        self.check_as_ahead()

    def test_keep_is_passed_by_name(self):
        with self.assertRaises(TypeError):
            self.bench.tried(lambda bench: 0, True)
        self.check_as_ahead()

    def test_drawn_trials(self):
        for seed in range(40):
            chance = random.Random(seed)
            bench = Bench(COUNT, ())

            def look(bench, depth=0):
                for _ in range(chance.randint(0, 4)):
                    what = chance.choice(("rows", "goes", "collect", "undo", "redo", "trial", "keep"))
                    if what == "trial" and depth < 3:
                        before = journal(bench), bench.image(), can_redo(bench)
                        keep = chance.random() < 0.3
                        told = bench.tried(lambda bench: look(bench, depth + 1), keep=keep)
                        if not keep and not told:
                            self.assertEqual((journal(bench), bench.image(), can_redo(bench)), before)
                    elif what == "keep" and depth:
                        bench.keep()
                        return True
                    elif what in ("undo", "redo"):
                        refused(getattr(bench, what))
                    elif what != "trial" and what != "keep":
                        refused(do, bench, what, chance.choice((1, 3, 9)))
                return False
            look(bench)
            again = read_journal(journal(bench))
            self.assertEqual((again, again.image()), (bench, bench.image()))


def can_redo(bench):
    """How many deeds can be done again."""
    other, many = bench.copy(), 0
    while refused(other.redo) is None:
        many += 1
    return many


class AllAlike(unittest.TestCase):
    """One program told by the meaning, by a machine, collected, read back from an image amid, and at a bench."""

    def check(self, text, inputs, chance, most):
        program = Program(text)
        told = meant(program, inputs, most)
        machine = Machine(program, inputs)
        machine.run(most)
        self.assertEqual(told_by(machine), told)
        self.assertEqual(swept(program, inputs, most, chance.choice((1, 2, 5, 50))), told)
        amid = Machine(program, inputs)
        first = amid.run(chance.randint(0, most))
        amid = read_image(image(amid))
        amid.run(most - first)
        self.assertEqual(told_by(amid), told)
        bench = Bench(text, inputs)
        while bench.ending is None and bench.turns < most:
            self.deed(bench, chance, most - bench.turns)
        # Rows behind the last turn that tell, or end, belong to it.
        behind = bench.machine()
        behind.run(0)
        self.assertEqual(told_by(behind), told)

    def deed(self, bench, chance, left):
        what = chance.choice(("rows", "goes", "goes", "collect", "undo", "trial"))
        if what == "undo":
            refused(bench.undo)
        elif what == "trial":
            bench.tried(lambda bench: bench.goes(7))
        else:
            do(bench, what, {"rows": 1, "goes": chance.randint(1, min(left, 20)), "collect": None}[what])

    def test_programs_made_at_random(self):
        for seed in range(60):
            maker = (Maker, Keeper)[seed % 2](seed)
            self.check(maker.text(), (), maker.random, 60)

    def test_small_programs(self):
        chance = random.Random(7)
        for text in (COUNT, "", "5", "x", "(tell (ask)) (tell (ask))", "(def n 0) (while (less n 5) (tell n) (set n (add n 1)))",
                     "(prompt (fn () (add 100 (part (fn (k) (add (k 1) (k 2)))))))", "(def f (fn (n) (f (add n 1)))) (f 0)"):
            self.check(text, ("(a)",), chance, 50)


if __name__ == "__main__":
    unittest.main()
