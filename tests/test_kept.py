"""Sections 3, (b) to (d), 7 and 11: what is kept whole and in part, gone on with from wherever, and winds.

Each program is run with just as many turns as it wants, with one less and one more, and by section 7 taken word by
word; and by machines, collected and not, with each number of turns.
"""

import unittest

from keptagain.collecting import collect, held, swept
from keptagain.core import Program
from keptagain.images import image
from keptagain.machine import Machine
from keptagain.meaning import meant

from plain import plainly
from runs import told_by, turns_of

# (wound NAME BODY) tells NAME at its in and its out.
WOUND = "(macro wound () ((wound name e) (wind (fn () (tell '(in name))) (fn () e) (fn () (tell '(out name))))))\n"


def told(*names):
    """What WOUND tells: +a for the in of a, -a for its out, all else as it is."""
    return tuple([name if name[0] not in "+-" else ("(in " if name[0] == "+" else "(out ") + name[1:] + ")" for name in names])


class Kept(unittest.TestCase):

    def check(self, text, turns, how, datum, tells=()):
        program = Program(WOUND + text)
        self.assertEqual(meant(program, (), 20000), (how, datum, tuple(tells)))
        self.assertEqual(turns_of(WOUND + text), turns)
        self.assertEqual(meant(program, (), turns), (how, datum, tuple(tells)))
        self.assertEqual(meant(program, (), turns + 1), (how, datum, tuple(tells)))
        if turns:
            word, so_far = meant(program, (), turns - 1)
            self.assertEqual((word, so_far), ("on", tuple(tells)[:len(so_far)]))
        for most in (turns + 1, turns, turns - 1, turns // 2):
            self.assertEqual(plainly(program, (), max(most, 0)), meant(program, (), max(most, 0)))
        self.check_machine(program, turns)

    def check_machine(self, program, turns):
        """A machine tells the same behind each number of turns, up to the end and one beyond, collected or not."""
        machine, swept_one = Machine(program, ()), Machine(program, ())
        for most in range(turns + 2):
            told = meant(program, (), most)
            self.assertEqual(told_by(machine), told)
            self.assertEqual(told_by(swept_one), told)
            collect(swept_one)
            self.assertEqual(held(machine), swept_one.things)
            self.assertEqual(image(machine), image(swept_one))
            for one in (machine, swept_one):
                self.assertEqual(one.run(1), 0 if most >= turns else 1)
        for pace in (1, 2, 3, 7, 1000):
            for most in (turns + 1, turns, max(turns - 1, 0), turns // 2):
                self.assertEqual(swept(program, (), most, pace), meant(program, (), most))


class Whole(Kept):

    def test_called_within_its_function(self):
        self.check("(add 1 (keep (fn (k) (mul 100 (k 2)))))", 4, "ended", "3")
        self.check("(add 1 (keep (fn (k) 5)))", 3, "ended", "6")
        self.check("(keep (fn (k) (do (k 1) (tell 'never))))", 3, "ended", "1")

    def test_called_later_and_often(self):
        self.check("(def k none) (def n 0) (tell (list 'at (keep (fn (r) (do (set k r) 0))))) (set n (add n 1)) "
                   "(if (less n 4) (k n) 'end)", 21, "ended", "end",
                   ("(at 0)", "(at 1)", "(at 2)", "(at 3)"))

    def test_all_later_forms_go_on_again(self):
        self.check("(def k none) (keep (fn (r) (set k r))) (tell 'a) (tell 'b) (let ((f k)) (if (same f none) 'end (do (set k none) (f 0))))",
                   11, "ended", "end", ("a", "b", "a", "b"))
        self.check("(def l '()) (def k none) (set l (pair (keep (fn (r) (do (set k r) 'first))) l)) "
                   "(if (same (head l) 'first) (k 'second) l)", 9, "ended", "(second first)")

    def test_a_form_of_def_and_set_goes_on_again(self):
        self.check("(def k none) (def x (keep (fn (r) (do (set k r) 1)))) (tell x) (if (less x 3) (k (add x 1)) 'end)",
                   12, "ended", "end", ("1", "2", "3"))

    def test_it_is_never_changed_by_going_on(self):
        self.check("(def k none) (def c (cell 0)) (def f (fn (a) (list a (keep (fn (r) (do (set k r) 'x))) (get c)))) "
                   "(tell (f 'one)) (put c (add (get c) 1)) (if (less (get c) 3) (k (get c)) 'end)",
                   32, "ended", "end",
                   ("(one x 0)", "(one 1 1)", "(one 2 2)"))

    def test_places_hold_what_was_set_last(self):
        self.check("(def k none) (def f (fn (n) (do (keep (fn (r) (set k r))) (set n (add n 1)) (tell n) n))) "
                   "(if (less (f 0) 3) (k 0) 'end)", 14, "ended", "end", ("1", "2", "3"))

    def test_operands_that_came_ahead_stay_those_that_were_kept(self):
        self.check("(def k none) (def n 1) (tell (list n (keep (fn (r) (do (set k r) 0))) n)) (set n (add n 1)) (if (less n 3) (k 5) 'end)",
                   11, "ended", "end", ("(1 0 1)", "(1 5 2)"))

    def test_a_function_called_in_what_is_kept_at_its_end(self):
        self.check("(keep list)", 2, "ended", "(#rest)")
        self.check("((keep (fn (k) k)) (fn (x) 5))", 4, "ended", "5")
        self.check("((keep (fn (k) (k list))) 1 2)", 4, "ended", "(1 2)")

    def test_kept_in_a_loop_by_calls_at_the_end(self):
        self.check("(def k none) (def f (fn (n) (if (less n 1) (keep (fn (r) (do (set k r) 'done))) (f (sub n 1))))) (tell (f 50)) "
                   "(if (same k none) 'end (let ((r k)) (set k none) (r 'again)))",
                   160, "ended", "end", ("done", "again"))

    def test_many(self):
        for call in ("(k)", "(k 1 2)", "(use k '())", "(use k '(1 2 3))"):
            turns = 3 if "use" not in call else 4
            self.check("(keep (fn (k) " + call + "))", turns, "fault", "many")

    def test_not_a_function(self):
        self.check("(keep 5)", 2, "fault", "call")
        self.check("(keep (fn () 1))", 2, "fault", "many")


class InPart(Kept):

    def test_up_to_the_prompt(self):
        self.check("(list (prompt (fn () (add 1 (part (fn (k) (k 10)))))))", 7, "ended", "(11)")
        self.check("(prompt (fn () (add 100 (part (fn (k) (add (k 1) (k 2)))))))", 9, "ended", "203")
        self.check("(prompt (fn () (add 1 (part (fn (k) 'instead)))))", 4, "ended", "instead")
        self.check("(prompt (fn () 5))", 2, "ended", "5")

    def test_outside(self):
        self.check("(part (fn (k) k))", 1, "fault", "outside")
        self.check("(do (prompt (fn () 1)) (part (fn (k) k)))", 3, "fault", "outside")
        self.check("(prompt (fn () (part (fn (k) (part (fn (l) 'in))))))", 6, "ended", "in")

    def test_the_prompt_stays_where_it_is(self):
        self.check("(list (prompt (fn () (list 1 (part (fn (k) (list 2 (part (fn (l) (list 3 (l 4)))))))))))",
                   10, "ended", "((3 (2 4)))")

    def test_the_innermost_prompt_counts(self):
        self.check("(prompt (fn () (list 1 (prompt (fn () (list 2 (part (fn (k) (k (k 3))))))))))", 11, "ended", "(1 (2 (2 3)))")

    def test_a_prompt_is_put_wherever_it_is_called(self):
        self.check("(def k (prompt (fn () (list 1 (part (fn (k) k)))))) (list 0 (k 2))", 7, "ended", "(0 (1 2))")
        self.check("(def k (prompt (fn () (do (part (fn (k) k)) (part (fn (l) (tell 'in))) (tell 'never))))) (tell (k 1)) 'end",
                   9, "ended", "end", ("in", "none"))

    def test_called_often_and_from_anywhere(self):
        self.check("(def k (prompt (fn () (add 1 (mul 2 (part (fn (k) k))))))) (list (k 1) (k 2) (k (k 3)) (try (fn () (k 'a)) list))",
                   22, "ended", "(3 5 15 (kind))")

    def test_nothing_between(self):
        self.check("(prompt (fn () (part (fn (k) (k (k 5))))))", 6, "ended", "5")
        self.check("(prompt (fn () (part (fn (k) (part (fn (l) (list (l 1) (k 2))))))))", 9, "ended", "(1 2)")

    def test_generators_by_hand(self):
        self.check("(def rest none) (def yield (fn (x) (part (fn (k) (do (set rest k) x))))) "
                   "(def start (fn () (prompt (fn () (do (yield 1) (yield 2) 'end))))) (list (start) (rest 0) (rest 0))",
                   12, "ended", "(1 2 end)")

    def test_whole_within_part_and_part_within_whole(self):
        self.check("(def k none) (def n 0) (tell (prompt (fn () (list 'p (keep (fn (r) (do (set k r) 0)))))))"
                   "(set n (add n 1)) (if (less n 3) (k n) 'end)", 18, "ended", "end", ("(p 0)", "(p 1)", "(p 2)"))
        self.check("(def k none) (def n 0) (tell (prompt (fn () (list 'p (part (fn (r) (list 'q (keep (fn (w) (do (set k w) 0))) (r 1))))))))"
                   "(set n (add n 1)) (if (less n 2) (k n) 'end)", 19, "ended", "end", ("(q 0 (p 1))", "(q 1 (p 1))"))

    def test_a_part_that_holds_what_was_kept_whole(self):
        self.check("(tell (prompt (fn () (list (part (fn (p) (list (p (keep (fn (w) w))) 'cut))))))) 'end", 10, "ended", "end",
                   ("((#rest) cut)",))

    def test_many(self):
        for call in ("(k)", "(k 1 2)"):
            self.check("(prompt (fn () (part (fn (k) " + call + "))))", 5, "fault", "many")

    def test_not_functions(self):
        self.check("(prompt 5)", 2, "fault", "call")
        self.check("(prompt (fn () (part 5)))", 4, "fault", "call")
        self.check("(prompt (fn () (part (fn () 1))))", 4, "fault", "many")


class Winds(Kept):

    def test_once_in_once_out(self):
        self.check("(wound a (do (tell 'body) 5))", 7, "ended", "5", told("+a", "body", "-a"))
        self.check("(tell (wound a (wound b 5)))", 13, "ended", "none", told("+a", "+b", "-b", "-a", "5"))

    def test_their_worths_are_dropped_and_that_of_the_body_goes_on(self):
        self.check("(wind (fn () 1) (fn () 2) (fn () 3))", 4, "ended", "2")

    def test_not_functions(self):
        self.check("(wind 1 list list)", 2, "fault", "call")
        self.check("(wind list 1 list)", 3, "fault", "call")
        self.check("(wind list list 1)", 4, "fault", "call")
        self.check("(wind (fn (x) x) list list)", 2, "fault", "many")

    def test_left_and_entered_by_what_was_kept_whole(self):
        self.check("(keep (fn (k) (wound a (k 1))))", 9, "ended", "1", told("+a", "-a"))
        self.check("(def k none) (wound a (do (keep (fn (r) (set k r))) (tell 'body))) "
                   "(let ((f k)) (if (same f none) 'end (do (set k none) (f 0))))", 19, "ended", "end",
                   told("+a", "body", "-a", "+a", "body", "-a"))

    def test_left_from_the_innermost_and_entered_from_the_outermost(self):
        self.check("(def k none) (wound a (wound b (wound c (keep (fn (r) (set k r)))))) (tell 'between) "
                   "(let ((f k)) (if (same f none) 'end (do (set k none) (f 0))))", 39, "ended", "end",
                   told("+a", "+b", "+c", "-c", "-b", "-a", "between", "+a", "+b", "+c", "-c", "-b", "-a", "between"))
        self.check("(keep (fn (k) (wound a (wound b (wound c (k 1))))))", 21, "ended", "1",
                   told("+a", "+b", "+c", "-c", "-b", "-a"))

    def test_what_both_have_is_neither_left_nor_entered(self):
        self.check("(def k none) (wound a (do (wound b (keep (fn (r) (set k r)))) "
                   "(wound c (let ((f k)) (if (same f none) 0 (do (set k none) (f 0)))))))", 35, "ended", "0",
                   told("+a", "+b", "-b", "+c", "-c", "+b", "-b", "+c", "-c", "-a"))
        self.check("(wound a (do (keep (fn (k) (k 1))) (tell 'here)))", 10, "ended", "none", told("+a", "here", "-a"))

    def test_winds_made_alike_are_others(self):
        self.check("(def k none) (def n 0) (def f (fn () (wound a (keep (fn (r) (do (when (less n 1) (set k r)) n)))))) (f) "
                   "(set n (add n 1)) (if (less n 2) (wound a (k 5)) 'end)", 25, "ended", "end",
                   told("+a", "-a", "+a", "-a", "+a", "-a"))

    def test_left_by_a_fault_that_is_caught(self):
        self.check("(try (fn () (wound a (wound b (head 5)))) list)", 16, "ended", "(kind)", told("+a", "+b", "-b", "-a"))
        self.check("(wound a (try (fn () (wound b (fail 1))) list))", 16, "ended", "(1)", told("+a", "+b", "-b", "-a"))

    def test_left_by_no_fault_that_is_not_caught(self):
        self.check("(wound a (try (fn () 5) list) )", 8, "ended", "5", told("+a", "-a"))
        self.check("(wound a (wound b (head 5)))", 9, "fault", "kind", told("+a", "+b"))

    def test_left_by_part_and_entered_again_as_another(self):
        self.check("(prompt (fn () (wound a (list 1 (part (fn (k) (do (tell 'out) (k 2))))))))", 17, "ended", "(1 2)",
                   told("+a", "-a", "out", "+a", "-a"))
        self.check("(prompt (fn () (wound a (add 1 (part (fn (k) (list (k 2) (k 3))))))))", 23, "ended", "(3 4)",
                   told("+a", "-a", "+a", "-a", "+a", "-a"))
        self.check("(prompt (fn () (wound a (add 1 (part (fn (k) (k (k 2))))))))", 22, "ended", "4",
                   told("+a", "-a", "+a", "-a", "+a", "-a"))

    def test_a_wind_outside_of_the_prompt_is_not_left_by_part(self):
        self.check("(wound a (prompt (fn () (wound b (part (fn (k) (tell 'cut)))))))", 17, "ended", "none",
                   told("+a", "+b", "-b", "cut", "-a"))

    def test_a_part_called_within_another_wind(self):
        self.check("(def k (prompt (fn () (wound a (list (part (fn (k) k))))))) (wound b (k 1))", 22, "ended", "(1)",
                   told("+a", "-a", "+b", "+a", "-a", "-b"))


class WithinInsAndOuts(Kept):

    def test_an_in_that_goes_elsewhere(self):
        self.check("(keep (fn (k) (wind (fn () (k 'gone)) (fn () (tell 'never)) (fn () (tell 'never)))))", 5, "ended", "gone")

    def test_an_out_that_goes_elsewhere(self):
        self.check("(keep (fn (k) (wind (fn () 0) (fn () 1) (fn () (k 'gone)))))", 7, "ended", "gone")

    def test_an_out_that_goes_elsewhere_while_it_is_left(self):
        self.check("(list (keep (fn (home) (keep (fn (k) (wind (fn () 0) (fn () (k 'left)) (fn () (home 'home))))))))",
                   11, "ended", "(home)")

    def test_an_in_and_an_out_that_fault(self):
        self.check("(wind (fn () (fail 1)) list list)", 3, "fault", "1")
        self.check("(wind list list (fn () (fail 1)))", 5, "fault", "1")
        self.check("(try (fn () (wind (fn () (fail 'in)) list list)) list)", 6, "ended", "(in)")
        self.check("(try (fn () (wind list (fn () (fail 'body)) (fn () (do (tell 'out) (fail 'out))))) list)", 10, "ended", "(out)",
                   ("out",))

    def test_an_out_that_faults_where_it_is_left_for_good(self):
        self.check("(try (fn () (keep (fn (k) (wind list (fn () (k 1)) (fn () (fail 'out)))))) list)", 11, "ended", "(out)")

    def test_kept_within_an_in(self):
        self.check("(def k none) (def n 0) (wind (fn () (do (keep (fn (r) (set k r))) (tell 'in))) (fn () (tell 'body)) (fn () (tell 'out))) "
                   "(set n (add n 1)) (if (less n 3) (k 0) 'end)", 27, "ended", "end",
                   ("in", "body", "out") * 3)

    def test_kept_within_an_out(self):
        self.check("(def k none) (def n 0) (tell (wind (fn () (tell 'in)) (fn () 'worth) (fn () (do (keep (fn (r) (set k r))) (tell 'out))))) "
                   "(set n (add n 1)) (if (less n 3) (k 0) 'end)", 21, "ended", "end",
                   ("in", "out", "worth", "out", "worth", "out", "worth"))

    def test_kept_within_an_out_while_it_is_left(self):
        # What is kept there goes on with leaving, to where the first one went, and with what it brought.
        self.check("(def k none) (def n 0) (tell (keep (fn (home) (wind list (fn () (home 'first)) "
                   "(fn () (do (keep (fn (r) (set k r))) (tell 'out))))))) (set n (add n 1)) (if (less n 3) (k 0) 'end)",
                   23, "ended", "end", ("out", "first", "out", "first", "out", "first"))

    def test_kept_within_an_in_while_it_is_entered(self):
        self.check("(def k none) (def again none) (def n 0) (wind (fn () (do (keep (fn (r) (set again r))) (tell 'in))) "
                   "(fn () (tell (keep (fn (r) (do (set k r) 'body))))) (fn () (tell 'out))) "
                   "(set n (add n 1)) (cond ((same n 1) (k 'entered)) ((same n 2) (again 0)) (else 'end))", 32, "ended", "end",
                   ("in", "body", "out", "in", "entered", "out", "in", "entered", "out"))

    def test_part_within_an_in_while_it_is_entered(self):
        # What is cut off there holds the frame of entering, which goes on to its own goal wherever it is put: so wind a
        # is not left.
        text = ("(def k none) (def p none) (def n 0) (prompt (fn () (wind (fn () (do (when (less 0 n) (part (fn (r) (set p r)))) (tell 'in))) "
                "(fn () (tell (keep (fn (r) (do (set k r) 'body))))) (fn () (tell 'out))))) "
                "(set n (add n 1)) (cond ((same n 1) (k 'entered)) ((same n 2) (wound a (p 0))) (else 'end))")
        self.check(text, 34, "ended", "end", told("in", "body", "out", "+a", "in", "entered", "out"))


if __name__ == "__main__":
    unittest.main()
