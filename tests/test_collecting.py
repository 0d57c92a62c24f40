"""Section 12: how many THINGS there are, how many can be come to, and what goes; and section 3, (f)."""

import random
import unittest
from unittest import mock

from keptagain import collecting
from keptagain.collecting import collect, held, swept
from keptagain.core import Program
from keptagain.errors import BadInputs, BadMost, BadPace, NoMachine, NoProgram
from keptagain.images import image
from keptagain.machine import Machine
from keptagain.meaning import meant

from makers import Keeper, Maker
from rowwise import Rowwise
from runs import any_values, refused, stepped, tells

GROWING = ("(def c (cell '())) (def l '(1 2)) (def f (fn (n) (if (less n 1) (get c) (do (put c (list n (pair n l))) "
           "(keep (fn (k) (list k k))) (f (sub n 1)))))) (f 5)")


def without_things(machine):
    return {**tells(machine), "things": None}


class Held(unittest.TestCase):

    def check(self, *cases):
        """(text, things at the end, those that can be come to)."""
        for text, things, come_to in cases:
            machine = Machine(Program(text), ("(a b)", "c"))
            machine.run(500)
            self.assertIsNotNone(machine.ending)
            self.assertEqual((machine.things, held(machine)), (things, come_to), text)
            told = without_things(machine), image(machine)
            self.assertEqual((collect(machine), machine.things), (things - come_to, come_to))
            self.assertEqual((without_things(machine), image(machine)), told)
            self.assertEqual(collect(machine), 0)

    def test_by_globals(self):
        self.check(("(def x (pair 1 2)) 0", 1, 1), ("(def x (pair 1 2)) (set x 0)", 1, 0), ("(def x (list 1 2 3)) (set x (tail x))", 3, 2),
                   ("(def x (list (list 1) 2)) (set x (head x))", 3, 1), ("(def x list)", 0, 0), ("(set list (cell 1))", 1, 1))

    def test_by_cells(self):
        self.check(("(def c (cell (list 1 2))) 0", 3, 3), ("(def c (cell (list 1 2))) (put c 0)", 3, 1),
                   ("(def c (cell 0)) (put c c) 0", 1, 1), ("(def c (cell 0)) (put c c) (set c 0)", 1, 0),
                   ("(def c (cell 0)) (put c (list c)) (set c (get c)) 0", 2, 2))

    def test_by_functions(self):
        self.check(("(def f ((fn (a b) (fn () a)) (list 1) (list 2)))", 4, 2), ("(def f ((fn (a) (fn () (set a 1))) (list 1)))", 4, 3),
                   ("(def f ((fn (a) (do (set a 1) (fn () a))) (list 1)))", 4, 2), ("(def f ((fn l (fn () l)) 1 2))", 4, 3))

    def test_what_is_quoted_always(self):
        self.check(("'(1 2)", 2, 2), ("(if no '(1 (2)) 0)", 3, 3), ("(fn () '(1))", 2, 1), ("(def x '(1)) (set x 0)", 1, 1),
                   ("(head '((1)))", 2, 2))

    def test_by_rests(self):
        self.check(("(def k none) (list (list 1) (list (keep (fn (r) (set k r)))))", 6, 2),
                   ("(def k none) (def f (fn (a b) (list a (keep (fn (r) (set k r))))))  (f (list 1) (list 2))", 7, 4),
                   ("(def k none) (prompt (fn () (list (list 1) (part (fn (r) (set k r))))))", 4, 2),
                   ("(def k none) (prompt (fn () (list (list 1) (part (fn (r) (set k r)))))) (set k 0)", 4, 0),
                   ("(def k none) (list (list 1) (prompt (fn () (list (list 2) (part (fn (r) (set k r)))))))", 7, 2))

    def test_not_the_last_worth(self):
        self.check(("(list 1 2 3)", 3, 0), ("(fail (list 1 2))", 2, 0), ("(ask)", 2, 0), ("(keep (fn (k) k))", 2, 0))

    def test_what_waits_when_a_fault_has_ended_it(self):
        self.check(("(list (list 1) (head 5))", 1, 1), ("(list (list 1) x)", 1, 0), ("(wind list (fn () (head 5)) (fn () 0))", 2, 1),
                   ("(try (fn () 0) list) (list (list 1) (keep (fn (k) (fail (list 2)))))", 5, 1))

    def test_amid(self):
        machine = Machine(Program("(list (list 1) (list 2))"), ())
        seen = []
        while machine.ending is None:
            seen.append((machine.things, held(machine)))
            machine.step()
        self.assertEqual(seen, [(0, 0)] * 5 + [(1, 1)] * 4 + [(2, 2)] * 2 + [(4, 4)])
        self.assertEqual((machine.things, held(machine)), (4, 0))

    def test_a_call_that_is_due_and_a_going_that_is_on(self):
        machine = Machine(Program("(use (fn l 0) (list (list 1)))"), ())
        while machine.step() != "end-call":
            pass
        self.assertEqual((machine.things, held(machine)), (3, 2))
        machine = Machine(Program("(keep (fn (k) (k (list 1 2))))"), ())
        while machine.things < 4:
            machine.step()
        machine.step()
        machine.step()
        self.assertEqual((machine.step(), held(machine)), ("go", 2))
        machine = Machine(Program("(try (fn () (fail (list 1 2))) (fn (d) (head d)))"), ())
        machine.run(4)
        self.assertEqual((machine.things, held(machine)), (4, 3))

    def test_goals_and_deeds_of_going_and_entering_frames(self):
        text = ("(def k none) (def f (fn (a) (list a (keep (fn (r) (do (set k r) 0)))))) "
                "(wind (fn () (list)) (fn () (f (list 1 2))) (fn () (list))) "
                "(let ((g k)) (if (same g none) 0 (do (set k none) (g (list 3 4 5)))))")
        self.check((text, 17, 1))
        machine, most = Machine(Program(text), ()), {}
        while machine.ending is None:
            words = {machine.frame(number)[0] for number in range(1, machine.depth + 1)}
            for word in words & {"going", "entering"}:
                most[word] = max(most.get(word, 0), held(machine))
            machine.step()
        self.assertEqual(most, {"entering": 8})


class AtAnyMoment(unittest.TestCase):
    """A collector's work is never to be told by anything but how many things there are."""

    def check(self, text, inputs, when, most=60):
        program = Program(text)
        plain, swept_one, words = Machine(program, inputs), Machine(program, inputs), Rowwise(program, inputs)
        at = 0
        while True:
            self.assertEqual(without_things(plain), without_things(swept_one))
            if when(at):
                things = words.held_on_to()
                self.assertEqual((held(plain), held(swept_one)), (things, things))
                self.assertEqual(collect(swept_one), words.collect())
                self.assertEqual(swept_one.things, things)
                self.assertEqual(image(swept_one), image(plain))
            if plain.ending is not None or plain.turns >= most:
                return
            word = plain.step()
            self.assertEqual((swept_one.step(), words.step()), (word, word))
            at += 1

    def test_behind_every_row(self):
        for text in (GROWING,):
            self.check(text, (), lambda at: True, 500)
        for seed in range(40):
            self.check((Maker, Keeper)[seed % 2](seed).text(), (), lambda at: True)

    def test_at_drawn_rows(self):
        for seed in range(40, 100):
            chance = random.Random(seed)
            self.check((Maker, Keeper)[seed % 2](seed).text(), (), lambda at: chance.random() < 0.1)

    def test_never(self):
        for seed in range(100, 140):
            self.check((Maker, Keeper)[seed % 2](seed).text(), (), lambda at: False)

    def test_inputs_are_made_when_they_are_asked_for(self):
        self.check("(def x (ask)) (set x (list (ask) 1)) (ask) (ask) x", ("(a (b))", "(c)", "((d) (e))"), lambda at: True)


class Swept(unittest.TestCase):

    def test_it_is_what_meant_tells(self):
        for text, inputs in ((GROWING, ()), ("(tell (ask)) (tell (ask)) (ask)", ("(a)", "5")), ("", ()), ("x", ()), ("(fail '(1))", ())):
            program = Program(text)
            for most in (0, 1, 2, 3, 10, 50, 500, 20000):
                for pace in (1, 2, 7, 999, 1000):
                    self.assertEqual(swept(program, inputs, most, pace), meant(program, inputs, most))

    def test_programs_made_at_random(self):
        for seed in range(120):
            maker = (Maker, Keeper)[seed % 2](seed)
            program = Program(maker.text())
            most, pace = maker.random.choice((5, 20, 60)), maker.random.choice((1, 2, 3, 10, 100))
            self.assertEqual(swept(program, (), most, pace), meant(program, (), most))

    def test_collected_ahead_of_the_rows_that_pace_tells(self):
        program = Program(GROWING)
        machine = Machine(program, ())
        machine.run(7)
        for pace in (1, 2, 3, 10, 1000):
            seen = []
            with mock.patch.object(collecting, "let_go", lambda state: seen.append(state.rows_done)):
                swept(program, (), 7, pace)
            self.assertEqual(seen, list(range(0, machine.rows, pace)))

    def test_by_name(self):
        program = Program(GROWING)
        self.assertEqual(swept(pace=3, most=50, inputs=(), program=program), swept(program, (), 50, 3))

    def test_handed_in(self):
        program = Program("x")
        for value in any_values():
            self.assertEqual(refused(swept, value, (), 0, 1), (NoProgram, value))
            if value != ():
                self.assertEqual(refused(swept, program, value, 0, 1), (BadInputs, value))
            self.assertEqual(refused(swept, program, (), value, 1), (BadMost, value))
            self.assertEqual(refused(swept, program, (), 0, value), (BadPace, value))
        for value in (0, 1001, -1, "1", (1,), True):
            self.assertEqual(refused(swept, program, (), 0, value), (BadPace, value))
        self.assertEqual(refused(swept, None, 5, -1, 0), (NoProgram, None))
        self.assertEqual(refused(swept, program, 5, -1, 0), (BadInputs, 5))
        self.assertEqual(refused(swept, program, (), -1, 0), (BadMost, -1))


class HandedIn(unittest.TestCase):

    def test_no_machine(self):
        for look in (collect, held):
            for value in any_values() + (Program("5"), Machine):
                self.assertEqual(refused(look, value), (NoMachine, value))

    def test_held_changes_nothing(self):
        machine = stepped(Program(GROWING), (), 60)
        before = tells(machine), image(machine)
        self.assertEqual(held(machine), held(machine=machine))
        self.assertEqual((tells(machine), image(machine)), before)
        self.assertEqual(collect(machine=machine), before[0]["things"] - machine.things)

    def test_cells_that_went_hold_nothing_any_more(self):
        machine = Machine(Program("(def c (cell '(1))) (def f (fn (n) (if (less n 1) 0 (do (cell (list n)) (f (sub n 1)))))) (f 20)"), ())
        machine.run(1000)
        self.assertEqual((len(machine.state.world.cells), machine.things), (21, 43))
        self.assertEqual((collect(machine), len(machine.state.world.cells), machine.things), (40, 1, 3))

    def test_deep_rests_long_lists_and_rings(self):
        machine = Machine(Program("(def f (fn (n l) (if (less n 1) l (list (keep (fn (k) (f (sub n 1) (pair k l)))))))) (def x (f 1500 '()))"), ())
        machine.run(7000)
        things = held(machine)
        collect(machine)
        self.assertEqual(machine.things, things)
        machine = Machine(Program("(def f (fn (n c) (if (less n 1) c (f (sub n 1) (cell c))))) (def c (cell 0)) (put c (f 4000 c)) (set f 0)"), ())
        machine.run(20000)
        self.assertEqual((machine.ending, held(machine), collect(machine)), (("ended", "none"), 4001, 1))


if __name__ == "__main__":
    unittest.main()
