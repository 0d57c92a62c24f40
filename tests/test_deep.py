"""Runs whose RESTS are deep, whose lists are long, whose integers are great: nothing depends on how much so."""

import unittest

from keptagain.core import Program, globals_in
from keptagain.macros import expanded

from runs import run, turns_of

DOWN = "(def down (fn (n) (if (less n 1) 0 (add 1 (down (sub n 1)))))) "


class Deep(unittest.TestCase):

    def check(self, text, *told):
        self.assertEqual(run(text), told)

    def test_as_many_frames_as_turns(self):
        self.check("(def f (fn (n) (add 1 (f n)))) (f 0)", "on", ())
        self.check("(def f (fn () (list 1 (list 2 (list 3 (list 4 (list 5 (f)))))))) (f)", "on", ())
        self.check(DOWN + "(down 4999)", "ended", "4999", ())

    def test_kept_at_the_bottom_and_gone_on_with(self):
        self.check("(def k none) (def f (fn (n) (if (less n 1) (keep (fn (r) (do (set k r) 0))) (add 1 (f (sub n 1)))))) "
                   "(def n 0) (tell (f 2000)) (set n (add n 1)) (if (less n 4) (k n) 'end)",
                   "ended", "end", ("2000", "2001", "2002", "2003"))

    def test_gone_back_to_very_often(self):
        self.check("(def k none) (def n 0) (def f (fn (m) (if (less m 1) (do (keep (fn (r) (set k r))) (set n (add n 1)) "
                   "(if (less n 3000) (k 0) 'end)) (list (f (sub m 1)))))) (f 0)", "ended", "end", ())
        self.assertEqual(run("(def k none) (def f (fn (m) (if (less m 1) (do (keep (fn (r) (set k r))) (k 0)) "
                             "(add 1 (f (sub m 1)))))) (f 2500)"), ("on", ()))

    def test_cut_off_deep_and_put_on_again(self):
        self.check("(def f (fn (n) (if (less n 1) (part (fn (k) (list (k 0) (k 10) (k (k 0))))) (add 1 (f (sub n 1)))))) "
                   "(prompt (fn () (f 1500)))", "ended", "(1500 1510 3000)", ())

    def test_prompts_tries_and_winds_within_one_another(self):
        for call, turns in (("(prompt (fn () (f (sub n 1))))", 5), ("(try (fn () (f (sub n 1))) list)", 5),
                            ("(wind list (fn () (f (sub n 1))) list)", 7)):
            text = "(def f (fn (n) (if (less n 1) 'end " + call + "))) (f 2000)"
            self.assertEqual(run(text), ("ended", "end", ()))
            self.assertEqual(turns_of(text), 2000 * turns + 2)

    def test_a_fault_from_deep(self):
        self.check("(def f (fn (n) (if (less n 1) (fail 'deep) (add 1 (f (sub n 1)))))) (try (fn () (f 4500)) list)",
                   "ended", "(deep)", ())
        self.check("(def f (fn (n) (if (less n 1) (fail 0) (try (fn () (f (sub n 1))) (fn (d) (fail (add d 1))))))) (f 2000)",
                   "fault", "2000", ())
        self.check("(def f (fn (n) (if (less n 1) (head n) (add 1 (f (sub n 1)))))) (f 4500)", "fault", "kind", ())

    def test_many_winds_left_and_entered(self):
        text = ("(def k none) (def c (cell 0)) (def f (fn (n) (if (less n 1) (keep (fn (r) (set k r))) "
                "(wind (fn () (put c (add (get c) 1))) (fn () (f (sub n 1))) (fn () (put c (sub (get c) 1))))))) "
                "(f 500) (tell (get c)) (let ((r k)) (if (same r none) 'end (do (set k none) (r 0))))")
        self.check(text, "ended", "end", ("0", "0"))

    def test_whole_rests_that_hold_one_another(self):
        self.check("(def f (fn (n held) (if (less n 1) held (keep (fn (k) (f (sub n 1) (list k held))))))) (def l (f 2500 '())) (tell l) 'end",
                   "ended", "end", ("#long",))

    def test_functions_that_hold_one_another(self):
        self.check("(def f (fn (g n) (if (less n 1) g (f (fn () (g)) (sub n 1))))) ((f (fn () 5) 4000))", "ended", "5", ())
        self.check("(def f (fn (g n) (if (less n 1) g (f (fn () (list (g))) (sub n 1))))) (def h (f (fn () 5) 3000)) (h) 'end",
                   "ended", "end", ())

    def test_cells_that_hold_one_another(self):
        self.check("(def f (fn (c n) (if (less n 1) c (f (cell c) (sub n 1))))) (def c (f 0 4900)) c", "ended", "#cell", ())
        self.check("(def c (cell 0)) (put c (pair c c)) (tell (get c)) (get (head (get c)))", "ended", "(#cell . #cell)",
                   ("(#cell . #cell)",))

    def test_long_lists_and_deep_ones(self):
        self.check("(def f (fn (l n) (if (less n 1) l (f (pair n l) (sub n 1))))) (def l (f '() 4900)) (tell l) (head (use list l))",
                   "ended", "1", ("#long",))
        self.check("(def f (fn (l n) (if (less n 1) l (f (pair l '()) (sub n 1))))) (tell (f '() 999)) (tell (f '() 1000)) 'end",
                   "ended", "end", ("(" * 1000 + ")" * 1000, "#long"))
        self.check("(def f (fn (l n) (if (less n 1) l (f (pair l l) (sub n 1))))) (f 1 4900)", "ended", "#long", ())

    def test_long_forms(self):
        self.check("(list" + " 1" * 19998 + ")", "ended", "#long", ())
        self.check("(do" + " 5" * 19997 + " 6)", "ended", "6", ())
        self.check("((fn x (head (tail x)))" + " 7" * 19980 + " 8)", "ended", "7", ())
        names = " ".join("a" + str(at) for at in range(9000))
        self.check("((fn (" + names + ") (list a0 a8999))" + " 7" * 8999 + " 8)", "ended", "(7 8)", ())
        self.check("5 " * 30000 + "6", "ended", "6", ())

    def test_forms_sixty_lists_deep(self):
        ten = "(macro ten () ((ten x) (f (f (f (f (f (f (f (f (f (f x))))))))))))"
        text = ten + " (def f (fn (x) (add x 1))) (ten (ten (ten (ten (ten (ten 0))))))"
        self.check(text, "ended", "60", ())
        self.assertEqual(globals_in(Program(text), 2), ("f",))
        functions = "(macro ten () ((ten x) (fn () (fn () (fn () (fn () (fn () (fn () (fn () (fn () (fn () (fn () x))))))))))))"
        self.check(functions + " ((ten (ten (ten (ten (ten 5))))))", "ended", "#fn", ())
        self.assertEqual(expanded(functions + " (ten 5)"), ("(fn () " * 10 + "5" + ")" * 10,))

    def test_integers_up_to_the_greatest(self):
        self.check("(def f (fn (x n) (if (less n 1) x (f (mul x 10) (sub n 1))))) (f 1 1000)", "ended", "1" + "0" * 1000, ())
        self.check("(def f (fn (x n) (if (less n 1) x (f (mul x 10) (sub n 1))))) (f 1 1001)", "fault", "great", ())
        self.check("(sub 0 (quo " + "9" * 2000 + " 3))", "fault", "great", ())
        self.check("(quo " + "9" * 2000 + " 3)", "ended", "3" * 2000, ())


if __name__ == "__main__":
    unittest.main()
