"""Sections 10 to 13: machines, held against these sections taken word by word, row by row, in tests/rowwise.py."""

import random
import unittest

from keptagain.collecting import collect, held
from keptagain.core import Program
from keptagain.images import image, read_image
from keptagain.machine import Machine

from makers import Keeper, Maker
from rowwise import Rowwise
from runs import tells

TEXTS = (
    "", "5", "'(1 (2 . 3))", "(def x '(1 2)) x", "(tell (ask)) (list (ask) (ask) (ask))",
    "(def f (fn (a b) (do (set a (add a b)) (fn () (set b a) (list a b))))) ((f 1 2))",
    "((fn l (set l (pair 0 l)) l) 1 2 3)", "(fn x x)", "((fn x x))", "(x)", "(set x 1)", "(3 4)", "((fn (a) a))",
    "(add 1 (keep (fn (k) (k 2))))", "(prompt (fn () (add 1 (part (fn (k) (k (k 5)))))))",
    "(def k none) (prompt (fn () (list 1 (wind list (fn () (list 2 (part (fn (p) (do (set k p) 3))))) list)))) (k 4) (k 5)",
    "(def k none) (prompt (fn () (do (part (fn (p) (set k p))) 5))) (list (k 1) (prompt (fn () (part (fn (q) (k q))))))",
    "(def k none) (def l none) (prompt (fn () (list 1 (keep (fn (r) (set l r))) (part (fn (p) (do (set k p) 3)))))) (set l none) (k 4)",
    "(try (fn () (wind (fn () (tell 'in)) (fn () (list 1 (fail (list 1 2)))) (fn () (tell 'out)))) list)",
    "(wind list (fn () (fail (list 1))) list)", "(list 1 (try (fn () (head 5)) (fn (d) (fail d))))",
    "(keep (fn (k) (wind list (fn () (k (list 1 2))) (fn () (tell (keep list))))))",
    "(use (fn l (use list l)) (list 1 2)) (use keep (list list)) (use 5 '(1))",
    "(def add sub) (def foo list) (set list pair) (foo 1 (list 2 3))",
    "(def f (fn (n) (if (less n 1) (keep list) (list n (f (sub n 1)))))) (f 3)",
)


class RowByRow(unittest.TestCase):

    def check(self, text, inputs, chance, most):
        """Holds a machine behind each row against the words; collects at some."""
        program = Program(text)
        machine, words = Machine(program, inputs), Rowwise(program, inputs)
        rows = 0
        self.assertEqual(tells(machine), words.tells())
        while machine.ending is None and machine.turns < most:
            if chance.random() < 0.1:
                self.assertEqual(collect(machine), words.collect())
                self.assertEqual(machine.things, held(machine))
            self.assertEqual(machine.step(), words.step(), text)
            self.assertEqual(tells(machine), words.tells(), text)
            if chance.random() < 0.5:
                self.assertEqual(held(machine), words.held_on_to(), text)
                self.assertEqual(image(machine), words.image(), text)
            rows += 1
        return rows

    def test_small_programs(self):
        chance = random.Random(1)
        for text in TEXTS:
            self.check(text, ("(a (b))", "7", "'x"), chance, 300)

    def test_programs_made_at_random(self):
        rows = 0
        for seed in range(240):
            maker = (Maker, Keeper)[seed % 2](seed)
            rows += self.check(maker.text(), (), maker.random, 60)
        self.assertGreater(rows, 10000)


class ReadBack(unittest.TestCase):

    def check(self, text, inputs, most):
        """Reads the image behind each row back; goes on with it to the next row, and sometimes to the end."""
        program = Program(text)
        machine = Machine(program, inputs)
        chance = random.Random(text)
        again = None
        while True:
            told = image(machine)
            if again is not None:
                self.assertEqual(image(again), told, text)
                self.assertEqual({**tells(again), "things": 0}, {**tells(machine), "things": 0})
            again = read_image(told)
            self.assertEqual(image(again), told, text)
            self.assertEqual({**tells(again), "things": held(machine)}, {**tells(machine), "things": again.things})
            if chance.random() < 0.1:
                self.go_on(machine, read_image(told), most)
            if machine.ending is not None or machine.turns >= most:
                return
            self.assertEqual(machine.step(), again.step())

    def go_on(self, machine, again, most):
        """Goes on with both, the first of them by itself, to an ending, or to most turns more."""
        by_itself = read_image(image(machine))
        self.assertEqual(by_itself.run(most), again.run(most))
        collect(again)
        self.assertEqual(image(by_itself), image(again))
        self.assertEqual({**tells(by_itself), "things": 0}, {**tells(again), "things": 0})

    def test_small_programs(self):
        for text in TEXTS:
            self.check(text, ("(a (b))", "7", "'x"), 300)

    def test_programs_made_at_random(self):
        for seed in range(40):
            self.check((Maker, Keeper)[seed % 2](seed).text(), (), 40)


if __name__ == "__main__":
    unittest.main()
