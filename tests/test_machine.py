"""Section 10: the machine, row by row and by turns; what it refuses; and machines beside one another."""

import unittest

from keptagain.collecting import collect
from keptagain.core import Program
from keptagain.errors import BadInputs, BadMost, BadNumber, NoProgram, NotOn
from keptagain.images import image
from keptagain.machine import Machine
from keptagain.meaning import meant
from keptagain.primitives import primitives

from makers import Keeper, Maker
from runs import any_values, refused, stepped, tells, told_by

COUNT = "(def count (fn (n) (if (same n 0) 'done (count (sub n 1)))))\n(count 3)"


def words(text, inputs=(), most=200):
    """The words of all rows of a run."""
    machine, found = Machine(Program(text), inputs), []
    while machine.ending is None and len(found) < most:
        found.append(machine.step())
    return " ".join(found)


class AtFirst(unittest.TestCase):

    def test_a_forms_frame_is_the_only_one(self):
        for text in ("", "5", COUNT):
            machine = Machine(Program(text), ())
            self.assertEqual(tells(machine), {
                "told": (), "turns": 0, "rows": 0, "ending": None, "depth": 1, "live": 1, "things": 0, "pieces": (),
                "frames": [None, ("forms", 0)]})
            self.assertEqual(machine.program, Program(text))

    def test_what_is_quoted_is_there_from_the_beginning(self):
        for text, many in (("'(1 2)", 2), ("'((1) . 2)", 2), ("''a", 2), ("(fn () (fn () '(1))) '(2)", 2), ("'() 'a", 0),
                           ("(quote (a (b (c))))", 5), ("(letrec ((x 1)) x)", 0)):
            self.assertEqual(Machine(Program(text), ()).things, many, text)
        self.assertEqual(Machine(Program("'(1)"), ("(2)",)).things, 1)

    def test_the_kinds_of_what_it_tells(self):
        machine = stepped(Program("(add 1 (keep (fn (k) (tell k) 2)))"), (), 9)
        for name in ("turns", "rows", "depth", "live", "things"):
            self.assertIs(type(getattr(machine, name)), int)
        for name in ("told", "pieces"):
            self.assertIs(type(getattr(machine, name)), tuple)
        self.assertIsInstance(machine.frame(1)[3], tuple)


class Rows(unittest.TestCase):

    def test_their_words(self):
        for text, told in (("", "hand"), ("5", "hand const back hand"), ("1 2", "hand const back hand const back hand"),
                           ("x", "hand global"), ("(set x 1)", "hand const set-global"),
                           ("(def x 1)", "hand const def back hand"),
                           ("(list 1)", "hand global const end-call hand"), ("(3)", "hand const end-call"),
                           ("(list (list))", "hand global global call hand end-call hand"),
                           ("(if no 1 2)", "hand const unless const back hand"),
                           ("(do (if yes 1 2) 3)", "hand const unless const jump drop const back hand"),
                           ("((fn (a) (set a 1) a) 5)", "hand close const end-call box const set-local drop local-cell back hand"),
                           ("(((fn (a) (fn () (set a a))) 1))", "hand close const call box local close back hand end-call "
                            "taken-cell set-taken back hand"),
                           ("(use list '())", "hand global global const end-call make hand"),
                           ("(keep list)", "hand global global end-call make hand"),
                           ("(prompt list)", "hand global global end-call make hand hand"),
                           ("(prompt (fn () (part list)))", "hand global close end-call make global global end-call go hand hand"),
                           ("(wind list list list)", "hand global global global global end-call make hand hand hand hand"),
                           ("(try list list)", "hand global global global end-call make hand hand"),
                           ("(try (fn () (head 5)) list)", "hand global close global end-call make global const end-call go hand"),
                           ("(keep (fn (k) (k 1)))", "hand global close end-call make local const end-call go hand")):
            self.assertEqual(words(text), told, text)

    def test_a_call_frame_waits_behind_call_and_not_behind_end_call(self):
        machine = stepped(Program("(list 1 (list 2))"), (), 6)
        self.assertEqual([machine.frame(0), machine.frame(1)], [None, ("call", 0, 5, (), (), ("#fn", "1"))])
        self.assertEqual((machine.step(), machine.frame(0)), ("hand", ("call", 0, 5, (), (), ("#fn", "1", "(2)"))))
        self.assertEqual((machine.step(), machine.depth, machine.frame(0)), ("end-call", 1, None))

    def test_the_running_frame(self):
        machine = Machine(Program("((fn (a b) (set b a) (fn () (list a b))) 1 '(2))"), ())
        seen = []
        while machine.ending is None:
            machine.step()
            seen.append(machine.frame(0))
        self.assertEqual(seen[:6], [("call", 0, 0, (), (), ()), ("call", 0, 1, (), (), ("#fn",)), ("call", 0, 2, (), (), ("#fn", "1")),
                                    ("call", 0, 3, (), (), ("#fn", "1", "(2)")), ("call", 1, 0, (), ("1", "(2)"), ()),
                                    ("call", 1, 1, (), ("1", "#cell"), ())])
        self.assertEqual(seen[-3:], [("call", 1, 7, (), ("1", "#cell"), ("#fn",)), None, None])

    def test_taken_worths(self):
        machine = stepped(Program("(((fn (a) (fn (b) (list b a))) 1) 2)"), (), 10)
        self.assertEqual(machine.frame(0), ("call", 2, 0, ("1",), ("2",), ()))

    def test_a_frame_of_each_kind(self):
        text = ("(prompt (fn () (list (try (fn () (list (wind list (fn () (list (keep (fn (k) (wind (fn () (list (k 1) 2)) "
                "list list))))) (fn () (list (list) 5))))) list))))")
        machine, seen = Machine(Program(text), ()), set()
        while machine.ending is None:
            machine.step()
            seen |= {machine.frame(number) for number in range(1, machine.depth + 1) if machine.frame(number)[0] != "call"}
        self.assertEqual(seen, {("forms", 1), ("prompt",), ("try",), ("winding",), ("wind",), ("wound",)})

    def test_going_and_entering_frames(self):
        text = ("(def k none) (wind (fn () (list (list))) (fn () (keep (fn (r) (set k r)))) (fn () (list (list)))) "
                "(let ((f k)) (if (same f none) (keep (fn (h) (wind list (fn () (h 1)) (fn () (list (list)))))) (do (set k none) (f 0))))")
        machine, seen = Machine(Program(text), ()), set()
        while machine.ending is None:
            machine.step()
            seen |= {machine.frame(number)[0] for number in range(1, machine.depth + 1)}
        self.assertLessEqual({"going", "entering"}, seen)

    def test_things_that_rows_make(self):
        for text, many in (("(pair 1 2)", 1), ("(list 1 2 3)", 3), ("(list)", 0), ("(cell 1)", 1), ("(fn () 1)", 1), ("((fn l l) 1 2 3)", 4),
                           ("((fn l l))", 1), ("(keep list)", 2), ("(keep head)", 1), ("((fn (a) (set a 1)) 5)", 2), ("((fn (a b) b) 5 6)", 1),
                           ("(prompt (fn () (part head)))", 2), ("(add 1 2)", 0), ("(ask)", 3), ("(do (ask) (ask))", 3), ("(head '(1))", 1),
                           ("(get (cell 5))", 1), ("(fail (list 1))", 1), ("(pair 1)", 0), ("(use pair '(1 2))", 3)):
            machine = Machine(Program(text), ("(a (b))", "7"))
            machine.run(100)
            self.assertEqual(machine.things, many, text)


class Ending(unittest.TestCase):

    def test_with_the_last_worth(self):
        for text, ending in (("", "none"), ("5", "5"), ("5 'a", "a"), ("(def x 1)", "none"), ("(list 1 list)", "(1 #fn)"),
                             ("(keep (fn (k) k))", "#rest"), ("7" * 2001, "#long")):
            machine = Machine(Program(text), ())
            machine.run(100)
            self.assertEqual(machine.ending, ("ended", ending))
            self.assertEqual((machine.depth, machine.live, machine.pieces, machine.frame(0)), (0, 0, (), None))

    def test_with_a_fault_what_waits_stays_as_it_lies(self):
        machine = Machine(Program("(list (wind list (fn () (list 1 (head 5))) list))"), ())
        machine.run(100)
        self.assertEqual(tells(machine), {
            "told": (), "turns": 4, "rows": 14, "ending": ("fault", "kind"), "depth": 4, "live": 4, "things": 1, "pieces": (),
            "frames": [None, ("call", 1, 5, (), (), ("#fn", "1")), ("wind",), ("call", 0, 6, (), (), ("#fn",)), ("forms", 1)]})
        machine = Machine(Program("(list (keep (fn (k) (list x))))"), ())
        machine.run(100)
        self.assertEqual((machine.ending, machine.depth, machine.pieces, machine.frame(0)), (("fault", "nobody"), 2, (2,), None))

    def test_a_row_that_faults_takes_its_frame_with_it_and_a_call_does_not(self):
        for text, depth in (("(list 1 x)", 1), ("(list 1 (set x 2))", 1), ("(list 1 (head 5))", 2), ("(head 5)", 1), ("(list (3))", 2)):
            machine = Machine(Program(text), ())
            machine.run(100)
            self.assertEqual((machine.ending[0], machine.depth), ("fault", depth), text)

    def test_no_row_behind_it(self):
        for text in ("", "5", "x", "(fail '(1 2))"):
            machine = Machine(Program(text), ())
            machine.run(100)
            before = tells(machine), image(machine)
            self.assertEqual(refused(machine.step), (NotOn, machine.ending))
            self.assertEqual((machine.run(5), machine.run(0)), (0, 0))
            self.assertEqual((tells(machine), image(machine)), before)


class ByTurns(unittest.TestCase):

    TEXTS = (COUNT, "(tell 1) (tell 2)", "", "(list (list) (list))", "(wind list list list)", "(keep (fn (k) (k (list))))",
             "(def k none) (def n 0) (wind (fn () (tell 'in)) (fn () (keep (fn (r) (set k r)))) (fn () (tell 'out))) (set n (add n 1)) "
             "(if (less n 3) (k 0) 'end)", "(try (fn () (wind list (fn () (fail 1)) list)) list)", "(x)", "(fail 5)",
             "(prompt (fn () (wind list (fn () (list (part (fn (k) (k (k 1)))))) list)))")

    def turns(self, text):
        machine = Machine(Program(text), ())
        machine.run(1000)
        return machine.turns

    def test_rows_are_done_until_a_further_turn_would_begin(self):
        for text in self.TEXTS:
            program, many = Program(text), self.turns(text)
            for most in range(many + 2):
                machine, rows = Machine(program, ()), Machine(program, ())
                self.assertEqual(machine.run(most), min(most, many))
                while rows.ending is None and rows.rows < machine.rows:
                    rows.step()
                self.assertEqual(image(machine), image(rows))
                if machine.ending is None:
                    self.assertEqual((machine.turns, most < many), (most, True))
                    machine.step()
                    self.assertEqual(machine.turns, most + 1)

    def test_run_on_by_pieces(self):
        for text in self.TEXTS:
            program, many = Program(text), self.turns(text)
            for first in range(many + 1):
                for second in (0, 1, 2, many):
                    machine, whole = Machine(program, ()), Machine(program, ())
                    self.assertEqual(machine.run(first) + machine.run(second), whole.run(first + second))
                    self.assertEqual(image(machine), image(whole))

    def test_rows_and_turns_mixed(self):
        for text in self.TEXTS:
            program = Program(text)
            for rows in range(12):
                machine = Machine(program, ())
                for _ in range(rows):
                    if machine.ending is None:
                        machine.step()
                begun = machine.turns
                self.assertEqual(machine.run(1), machine.turns - begun)
                self.assertEqual(told_by(machine), meant(program, (), machine.turns))

    def test_no_row_begins_more_than_one(self):
        for seed in range(60):
            machine = Machine(Program((Maker, Keeper)[seed % 2](seed).text()), ())
            while machine.ending is None and machine.turns < 100:
                before = machine.turns
                machine.step()
                self.assertIn(machine.turns - before, (0, 1))

    def test_20000_turns_without_an_end(self):
        machine = Machine(Program("(def f (fn () (f))) (f)"), ())
        self.assertEqual([machine.run(most) for most in (20000, 20000, 1)], [20000, 20000, 1])
        self.assertEqual((machine.turns, machine.depth), (40001, 1))


class Primitives(unittest.TestCase):

    OPERANDS = ("5", "-7", "0", "'a", "yes", "no", "none", "'()", "'(1 2)", "'(1 . 2)", "c", "list", "(fn () 1)", "k", "p",
                "9" * 999, "(sub 0 " + "9" * 999 + ")")

    def test_what_comes_of_each_by_the_meaning_and_by_the_machine(self):
        ahead = "(def c (cell '(q))) (def k (keep (fn (r) r))) (def p (prompt (fn () (part (fn (r) r))))) (tell "
        for name, least, most in primitives():
            given = [()] + [(left,) for left in self.OPERANDS] + [(left, right) for left in self.OPERANDS for right in self.OPERANDS]
            given += [(left, "list", "'(5)") for left in self.OPERANDS] + [("list", left, "list") for left in self.OPERANDS]
            for operands in given:
                if name == "keep" or not set(operands) & {"k"} or name in ("tell", "list", "same", "kind", "add", "head"):
                    program = Program(ahead + "(" + " ".join((name,) + operands) + "))")
                    machine = Machine(program, ("(1)",))
                    machine.run(40)
                    self.assertEqual(told_by(machine), meant(program, ("(1)",), 40), program.text)

    def test_great_integers(self):
        for text in ("(def f (fn (x) (f (mul x x)))) (f 12345)", "(def f (fn (x) (f (mul x (sub 0 x))))) (f 12345)",
                     "(def f (fn (x n) (if (less n 1) x (f (mul x 10) (sub n 1))))) (f 1 1000)", "(add 1 " + "9" * 1000 + ")",
                     "(quo " + "9" * 5000 + " 7)", "(quo " + "9" * 5000 + " " + "8" * 4990 + ")", "(rem -" + "9" * 5000 + " 7)",
                     "(less " + "9" * 5000 + " " + "9" * 5001 + ")", "(same " + "9" * 5000 + " " + "9" * 5000 + ")"):
            program = Program(text)
            machine = Machine(program, ())
            machine.run(2500)
            self.assertEqual(told_by(machine), meant(program, (), 2500))


class Beside(unittest.TestCase):

    TEXT = ("(def c (cell '(1 2))) (def l '(3 4)) (def f (fn (a) (fn () (set a (add a 1)) a))) (def g (f 1)) (put c (pair (g) (get c))) "
            "(tell (get c)) (set list (ask)) (tell (same l l)) (keep (fn (k) (do (put c k) (g)))) (tell (g)) (tell list) (ask)")

    def test_those_of_one_program_do_not_meet(self):
        program = Program(self.TEXT)
        alone = Machine(program, ("(a)", "b"))
        states = []
        while alone.ending is None:
            states.append(image(alone))
            alone.step()
        one, other = Machine(program, ("(a)", "b")), Machine(program, ("(a)", "b"))
        for at, state in enumerate(states):
            self.assertEqual(image(one), state)
            one.step()
            if at % 2:
                self.assertEqual(image(other), states[at // 2])
                other.step()
                collect(other)

    def test_equal_to_themselves_alone(self):
        program = Program("5")
        one, other = Machine(program, ()), Machine(program, ())
        self.assertTrue(one == one and not one != one)
        for value in any_values() + (other, program):
            self.assertTrue(one != value and not one == value)

    def test_what_is_handed_in_is_not_changed(self):
        program, inputs = Program(self.TEXT), ("(a)", "b")
        forms = program.forms
        Machine(program, inputs).run(1000)
        self.assertEqual((program.forms, program.text, inputs), (forms, self.TEXT, ("(a)", "b")))
        first, again = Machine(program, inputs), Machine(program=program, inputs=inputs)
        self.assertEqual((first.run(most=1000), first.told), (again.run(1000), again.told))

    def test_what_was_told_stays(self):
        machine = Machine(Program("(tell 1) (tell 2)"), ())
        machine.run(1)
        told, pieces = machine.told, machine.pieces
        machine.run(1)
        self.assertEqual((told, pieces, machine.told), (("1",), (), ("1", "2")))


class HandedIn(unittest.TestCase):

    def test_no_program(self):
        for value in any_values() + ("5", Machine(Program(""), ())):
            self.assertEqual(refused(Machine, value, ()), (NoProgram, value))
            self.assertEqual(refused(Machine, value, 5), (NoProgram, value))

    def test_bad_inputs(self):
        program = Program("x")
        for value in any_values() + (["5"], ("5", 5), ("5 5",), ("",), ("(",), ("5",) * 101, "5", (True,)):
            if value != ():
                self.assertEqual(refused(Machine, program, value), (BadInputs, value))
        Machine(program, ("5",) * 100)

    def test_bad_most(self):
        for rows in (0, 3, 100):
            machine = Machine(Program(COUNT), ())
            machine.run(rows)
            before = image(machine)
            for value in any_values() + (-1, 20001, "5", (5,)):
                self.assertEqual(refused(machine.run, value), (BadMost, value))
            self.assertEqual(image(machine), before)

    def test_bad_number(self):
        machine = Machine(Program("(add 1 (keep (fn (k) (add 2 k))))"), ())
        while machine.ending is None:
            before = image(machine)
            for value in any_values() + (machine.depth + 1, -1, "0", None, True, False):
                self.assertEqual(refused(machine.frame, value), (BadNumber, value))
            self.assertEqual(len([machine.frame(number=at) for at in range(machine.depth + 1)]), machine.depth + 1)
            self.assertEqual(image(machine), before)
            machine.step()
        self.assertEqual(machine.ending, ("fault", "kind"))
        self.assertEqual(refused(machine.frame, machine.depth + 1), (BadNumber, machine.depth + 1))


if __name__ == "__main__":
    unittest.main()
