"""Section 15: the library's parts, by the programs that use them."""

import random
import unittest

from keptagain.benches import Bench
from keptagain.collecting import swept
from keptagain.core import Program
from keptagain.errors import BadText, NoPart
from keptagain.images import image, read_image
from keptagain.library import part_text, parts, with_parts
from keptagain.machine import Machine
from keptagain.meaning import meant

from runs import any_values, refused, run, told_by

ALL = ("generators", "lists", "searches", "threads", "undo")
# (wound NAME E ..) tells NAME at its in and its out.
WOUND = "(macro wound () ((wound name e ...) (wind (fn () (tell '(in name))) (fn () (do e ...)) (fn () (tell '(out name))))))\n"


def listed(things):
    return "(" + " ".join(map(str, things)) + ")"


class Library(unittest.TestCase):

    def told(self, names, text, most=20000):
        """What meant tells, which is what a machine tells, also one that is collected, or read from an image amid."""
        whole = with_parts(names, WOUND + text)
        told = run(whole, (), most)
        program = Program(whole)
        machine = Machine(program, ())
        half = machine.run(len(text) % 97)
        again = read_image(image(machine))
        again.run(most - half)
        self.assertEqual(told_by(again), told)
        return told

    def check(self, names, text, worth, *tells):
        """The run ends with worth, printed, and tells these; with all parts ahead as well."""
        for ahead in (names, ALL):
            self.assertEqual(self.told(ahead, text), ("ended", worth, tells), text)

    def check_fault(self, names, text, datum, *tells):
        for ahead in (names, ALL):
            self.assertEqual(self.told(ahead, text), ("fault", datum, tells), text)


class Parts(unittest.TestCase):

    NAMES = {"lists": ("append", "reverse", "map", "filter", "fold", "count", "range", "has?", "sorted"),
             "generators": ("generator", "next", "taken"), "searches": ("all", "choose", "must", "first"),
             "threads": ("spawn", "rest-a-while", "run-all"), "undo": ("lent", "caught", "kept-if")}

    def test_their_names_ascending(self):
        self.assertEqual(parts(), ALL)

    def test_each_defines_its_functions_and_nothing_of_others(self):
        defined = {}
        for name in ALL:
            program = Program(part_text(name))
            self.assertLessEqual(set(self.NAMES[name]), set(program.names))
            self.assertTrue(all(form.startswith("(def ") for form in program.forms))
            self.assertEqual(len(program.forms), len(program.names))
            for other in program.names:
                self.assertNotIn(other, defined)
                defined[other] = name
            self.assertEqual(meant(program, (), 100)[::2], ("ended", ()))
            for function in self.NAMES[name]:
                self.assertEqual(run(part_text(name) + f"\n(kind {function})"), ("ended", "fn", ()))

    def test_with_parts(self):
        self.assertEqual(with_parts((), "5\n"), "5\n")
        self.assertEqual(with_parts(("undo", "lists"), "5"), part_text("undo") + "\n" + part_text("lists") + "\n5")
        self.assertEqual(with_parts(("lists", "lists"), ""), part_text("lists") + "\n" + part_text("lists") + "\n")
        self.assertEqual(with_parts(text="(", names=("undo",)), part_text(name="undo") + "\n(")

    def test_in_any_sequence_and_more_than_once(self):
        for names in (ALL, ALL[::-1], ("threads", "lists", "threads")):
            self.assertEqual(run(with_parts(names, "(spawn (fn () (tell (sorted '(2 1))))) (run-all)")), ("ended", "none", ("(1 2)",)))

    def test_no_part(self):
        for value in any_values() + (("lists",), "list", "Lists", "lists "):
            self.assertEqual(refused(part_text, value), (NoPart, value))
            self.assertEqual(refused(with_parts, (value,), "5"), (NoPart, value))
            self.assertEqual(refused(with_parts, ("lists", value, "x"), None), (NoPart, value))
            if not isinstance(value, tuple):
                self.assertEqual(refused(with_parts, value, None), (NoPart, value))
        self.assertEqual(refused(with_parts, ["lists"], "5"), (NoPart, ["lists"]))

    def test_bad_text(self):
        for value in any_values():
            if not isinstance(value, str):
                self.assertEqual(refused(with_parts, ("lists",), value), (BadText, (0, 0)))
                self.assertEqual(refused(with_parts, (), value), (BadText, (0, 0)))


class Lists(Library):

    def drawn(self, chance, most=10):
        return [chance.randint(-5, 9) for _ in range(chance.randint(0, most))]

    def test_with_drawn_data(self):
        chance = random.Random(1)
        for _ in range(40):
            left, right, number = self.drawn(chance), self.drawn(chance), chance.randint(-5, 9)
            text = (f"(def l '{listed(left)}) (def m '{listed(right)}) (list (append l m) (reverse l) (map (fn (x) (mul x x)) l) "
                    f"(filter (fn (x) (less x 3)) l) (fold (fn (s x) (sub (mul 2 s) x)) 7 l) (count l) (range {number}) (has? {number} l) (sorted l))")
            folded = 7
            for thing in left:
                folded = 2 * folded - thing
            worth = listed([listed(left + right), listed(left[::-1]), listed(thing * thing for thing in left),
                            listed(thing for thing in left if thing < 3), folded, len(left), listed(range(number)),
                            "yes" if number in left else "no", listed(sorted(left))])
            told = run(with_parts(("lists",), text), (), 14999)
            self.assertEqual(told, ("ended", worth, ()))

    def test_of_nothing(self):
        self.check(("lists",), "(list (append '() '()) (append '(1) '()) (append '() '(1)) (reverse '()) (map list '()) (filter list '()) (fold add 5 '()) "
                   "(count '()) (range 0) (range -3) (range 1) (has? 1 '()) (sorted '()))", "(() (1) (1) () () () 5 0 () () (0) no ())")

    def test_by_same(self):
        self.check(("lists",), "(def p '(1)) (list (has? p (list 2 p)) (has? '(1) (list 2 p)) (has? 'a '(b a)) (has? '() '(())) (has? yes '(no)))",
                   "(yes no yes yes no)")

    def test_from_left_to_right(self):
        self.check(("lists",), "(list (map (fn (x) (do (tell x) x)) '(3 1 2)) (filter (fn (x) (do (tell x) (less x 3))) '(3 1 2)) "
                   "(fold (fn (s x) (do (tell (list s x)) x)) 0 '(3 1)))", "((3 1 2) (1 2) 1)", "3", "1", "2", "3", "1", "2", "(0 3)", "(3 1)")

    def test_filter_keeps_all_but_no(self):
        self.check(("lists",), "(filter (fn (x) x) (list 1 no none '() yes 'no 'a))", "(1 none () yes a)")

    def test_primitives_and_rests_as_functions(self):
        self.check(("lists",), "(list (map head '((1) (2))) (filter not (list no 1 no)) (fold add 0 '(1 2 3)) "
                   "(list (keep (fn (k) (map k '(8 9))))))", "((1 2) (no no) 6 (8))")

    def test_sorted(self):
        self.check(("lists",), "(list (sorted '(3 1 2)) (sorted '(5 5 -1 5)) (sorted '(1 2 3)) (sorted '(3 2 1)))", "((1 2 3) (-1 5 5 5) (1 2 3) (1 2 3))")
        self.check(("lists",), "(def l '(2 1)) (list (sorted l) l)", "((1 2) (2 1))")

    def test_faults_in_what_is_handed_to_them(self):
        self.check_fault(("lists",), "(map (fn (x) (do (tell x) (head x))) '((1) 2 (3)))", "kind", "(1)", "2")
        self.check(("lists",), "(list (try (fn () (filter (fn (x) (quo 1 x)) '(1 0))) list) (try (fn () (fold add 0 '(1 a))) list))", "((nought) (kind))")

    def test_kept_amid_and_gone_on_with_lists_are_made_anew(self):
        for call, first, again in (("(map (fn (x) (if (same x 2) (keep (fn (r) (do (set k r) 'first))) x)) '(1 2 3))", "(1 first 3)", "(1 {} 3)"),
                                   ("(filter (fn (x) (if (same x 2) (keep (fn (r) (do (set k r) no))) yes)) '(1 2 3))", "(1 3)", "(1 2 3)"),
                                   ("(fold (fn (s x) (if (same x 2) (keep (fn (r) (do (set k r) s))) (list x s))) 0 '(1 2 3))", "(3 (1 0))", "(3 {})")):
            text = ("(def k none) (def n 0) (def lots '()) (def made " + call + ") (set lots (pair made lots)) (tell made) (set n (add n 1)) "
                    "(if (less n 4) (k n) lots)")
            told = [first] + [again.format(number) for number in (1, 2, 3)]
            self.check(("lists",), text, listed(told[::-1]), *told)

    def test_kept_amid_each_one(self):
        text = ("(def ks '()) (def n 0) (tell (map (fn (x) (keep (fn (k) (do (when (less n 1) (set ks (pair k ks))) x)))) '(1 2 3))) (set n (add n 1)) "
                "(cond ((same n 1) ((head ks) 'c)) ((same n 2) ((head (tail ks)) 'b)) ((same n 3) ((head (tail (tail ks))) 'a)) (else 'end))")
        self.check(("lists",), text, "end", "(1 2 3)", "(1 2 c)", "(1 b 3)", "(a 2 3)")

    def test_cut_off_amid(self):
        self.check(("lists",), "(def p (prompt (fn () (map (fn (x) (part (fn (k) k))) '(1 2))))) (def q (p 'a)) (list (q 'b) (q 'c) ((p 'd) 'e))",
                   "((a b) (a c) (d e))")

    def test_within_winds(self):
        self.check(("lists",), "(def k none) (def n 0) (tell (map (fn (x) (wound x (keep (fn (r) (do (when (same x 1) (set k r)) x))))) '(1 2))) "
                   "(set n (add n 1)) (if (less n 2) (k 5) 'end)", "end", "(in x)", "(out x)", "(in x)", "(out x)", "(1 2)",
                   "(in x)", "(out x)", "(in x)", "(out x)", "(5 2)")

    def test_long_lists(self):
        self.check(("lists",), "(list (count (map list (range 400))) (count (filter list (reverse (range 200)))) (fold add 0 (append (range 200) (range 200))))",
                   "(400 200 39800)")


class Generators(Library):

    def test_one_after_the_other(self):
        self.check(("generators",), "(def g (generator (fn (yield) (tell 'begun) (yield 1) (tell 'amid) (yield 2) (tell 'end)))) (tell 'made) "
                   "(tell (next g)) (tell (next g)) (tell (next g)) (next g)", "none", "made", "begun", "1", "amid", "2", "end", "none")

    def test_yield_tells_none(self):
        self.check(("generators",), "(def g (generator (fn (yield) (tell (yield 1)) (tell (list (yield 2) (yield 3)))))) (taken g 9)", "(1 2 3)",
                   "none", "(none none)")

    def test_taken(self):
        text = "(def g (generator (fn (yield) (loop go ((n 0)) (do (tell n) (yield n) (if (less n 4) (go (add n 1)) 'end)))))) "
        self.check(("generators",), text + "(list (taken g 0) (taken g 2) (taken g 0) (taken g 1) (taken g 9) (taken g 3) (next g))",
                   "(() (0 1) () (2) (3 4) () none)", "0", "1", "2", "3", "4")

    def test_none_that_is_yielded(self):
        self.check(("generators",), "(def g (generator (fn (yield) (yield none) (yield '()) (yield no)))) (list (next g) (taken g 9) (next g))",
                   "(none (() no) none)")

    def test_without_a_yield(self):
        self.check(("generators",), "(def g (generator (fn (yield) (tell 'here) 5))) (list (next g) (next g) (taken g 3))", "(none none ())", "here")

    def test_drawn_ones(self):
        chance = random.Random(2)
        for _ in range(20):
            things = [chance.randint(-9, 9) for _ in range(chance.randint(0, 10))]
            wanted, asks, at = [], [], 0
            for _ in range(chance.randint(1, 6)):
                if chance.random() < 0.5:
                    asks.append("(next g)")
                    wanted.append(things[at] if at < len(things) else "none")
                    at += 1
                else:
                    many = chance.randint(0, 5)
                    asks.append(f"(taken g {many})")
                    wanted.append(listed(things[at:at + many]))
                    at += many
            text = (f"(def each (fn (f l) (when (not (same l '())) (f (head l)) (each f (tail l))))) (def g (generator (fn (yield) (each yield '{listed(things)})))) "
                    f"(list {' '.join(asks)})")
            self.check(("generators",), text, listed(wanted))

    def test_several_that_go_on_by_turns(self):
        self.check(("generators",), "(def from (fn (n) (generator (fn (yield) (while yes (yield n) (set n (add n 1))))))) (def a (from 1)) (def b (from 10)) "
                   "(list (next a) (next b) (next a) (taken b 2) (next a))", "(1 10 2 (11 12) 3)")

    def test_one_within_another(self):
        self.check(("generators",), "(def from (fn (n) (generator (fn (yield) (while yes (yield n) (set n (add n 1))))))) "
                   "(def evens (generator (fn (yield) (let ((g (from 0))) (while yes (yield (next g)) (next g)))))) (taken evens 4)", "(0 2 4 6)")

    def test_a_fault_is_one_of_the_next_that_asked(self):
        text = "(def g (generator (fn (yield) (yield 1) (head 5)))) "
        self.check(("generators",), text + "(list (try (fn () (next g)) list) (try (fn () (next g)) list))", "(1 (kind))")
        self.check_fault(("generators",), text + "(try (fn () (next g)) list) (tell 'here) (next g)", "kind", "here")
        self.check(("generators",), text + "(try (fn () (taken g 5)) list)", "(kind)")

    def test_a_try_within(self):
        self.check(("generators",), "(def g (generator (fn (yield) (yield (try (fn () (do (yield 1) (fail 2))) (fn (d) (list d))))))) (taken g 9)", "(1 (2))")

    def test_winds_between(self):
        self.check(("generators",), "(def g (generator (fn (yield) (wound a (yield 1) (yield 2))))) (tell (next g)) (tell 'between) (tell (next g)) (next g)",
                   "none", "(in a)", "(out a)", "1", "between", "(in a)", "(out a)", "2", "(in a)", "(out a)")

    def test_kept_around(self):
        self.check(("generators",), "(def g (generator (fn (yield) (yield 1) (yield 2) (yield 3)))) (def k none) (tell (list 'got (keep (fn (r) (do (set k r) (next g)))))) "
                   "(let ((n (next g))) (if (same n none) 'end (k n)))", "end", "(got 1)", "(got 2)", "(got 3)")


class Searches(Library):

    def test_all_ways_in_sequence(self):
        self.check(("searches",), "(all (fn () (list (choose '(1 2)) (choose '(a b c)))))", "((1 a) (1 b) (1 c) (2 a) (2 b) (2 c))")
        self.check(("searches",), "(list (all (fn () 5)) (all (fn () (choose '()))) (all (fn () (do (choose '(1 2)) (choose '())))))", "((5) () ())")

    def test_f_is_called_once(self):
        self.check(("searches",), "(all (fn () (do (tell 'begun) (let ((x (choose '(1 2)))) (tell x) (list x (choose '(3 4)))))))",
                   "((1 3) (1 4) (2 3) (2 4))", "begun", "1", "2")

    def test_must(self):
        self.check(("searches",), "(all (fn () (let ((x (choose '(1 2 3 4)))) (tell (must (less 1 x))) (tell x) (must (if (same x 3) no 'odd)) (list x))))",
                   "((2) (4))", "none", "2", "none", "3", "none", "4")

    def test_first(self):
        text = "(fn () (let ((x (choose '(1 2 3)))) (tell x) (must (less 1 x)) (let ((y (choose '(a b)))) (tell y) (list x y))))"
        self.check(("searches",), f"(first {text})", "(2 a)", "1", "2", "a")
        self.check(("searches",), "(list (first (fn () (choose '()))) (first (fn () (must no))) (first (fn () no)) (first (fn () none)) (first (fn () (choose '(()  1)))))",
                   "(none none no none ())")

    def test_with_drawn_data(self):
        chance = random.Random(4)
        for _ in range(20):
            left, right = ([chance.randint(0, 9) for _ in range(chance.randint(0, 10))] for _ in range(2))
            wanted = chance.randint(0, 18)
            found = [(one, other) for one in left for other in right if one + other == wanted]
            look = (f"(fn () (let ((a (choose '{listed(left)}))) (let ((b (choose '{listed(right)}))) (must (same (add a b) {wanted})) (list a b))))")
            whole = with_parts(("searches",), f"(list (all {look}) (first {look}))")
            self.assertEqual(run(whole, (), 14999), ("ended", listed([listed(map(listed, found)), listed(found[0]) if found else "none"]), ()))

    def test_one_within_another(self):
        self.check(("searches",), "(all (fn () (let ((x (choose '(1 2)))) (list x (all (fn () (add x (choose '(10 20)))))))))", "((1 (11 21)) (2 (12 22)))")
        self.check(("searches",), "(all (fn () (let ((x (choose '(1 2)))) (list x (first (fn () (let ((y (choose '(3 2 1)))) (must (less y 3)) (add x y))))))))",
                   "((1 3) (2 4))")

    def test_a_fault_goes_to_whoever_asked(self):
        self.check_fault(("searches",), "(all (fn () (do (tell (choose '(1 2))) (head 5))))", "kind", "1")
        self.check(("searches",), "(list (try (fn () (all (fn () (quo 6 (choose '(1 2 0 3)))))) list) (try (fn () (first (fn () (fail (choose '(a b)))))) list))",
                   "((nought) (a))")
        self.check(("searches",), "(all (fn () (try (fn () (quo 6 (choose '(1 0 2)))) (fn (d) d))))", "(6 nought 3)")

    def test_winds_between(self):
        self.check(("searches",), "(all (fn () (wound a (choose '(1 2)))))", "(1 2)", "(in a)", "(out a)", "(in a)", "(out a)", "(in a)", "(out a)")
        self.check(("searches",), "(first (fn () (wound a (do (must (same 2 (choose '(1 2)))) 'found))))", "found", "(in a)", "(out a)", "(in a)", "(out a)",
                   "(in a)", "(out a)")

    def test_what_is_put_stays(self):
        self.check(("searches",), "(def c (cell 0)) (all (fn () (do (put c (add (get c) (choose '(1 2 3)))) (get c))))", "(1 2 3)")
        self.check(("searches",), "(def c (cell 0)) (all (fn () (let ((x (choose '(1 2 3)))) (put c (add (get c) x)) (get c))))", "(1 3 6)")

    def test_kept_around(self):
        self.check(("searches",), "(def k none) (def n 0) (def lots '()) (def made (all (fn () (list (choose '(1 2)) n)))) (set lots (pair made lots)) "
                   "(keep (fn (r) (set k r))) (set n (add n 1)) (if (less n 3) (k 0) (list n lots))", "(3 (((1 0) (2 0))))")

    def test_a_hundred_ways(self):
        ten = listed(range(10))
        program = Program(with_parts(("searches",), f"(all (fn () (add (mul 10 (choose '{ten})) (choose '{ten}))))"))
        self.assertEqual(meant(program, (), 14999), ("ended", listed(range(100)), ()))


class Threads(Library):

    SAY = "(def say (fn (n k) (when (less 0 k) (tell (list n k)) (tell (rest-a-while)) (say n (sub k 1))))) "

    def test_in_turns(self):
        self.check(("threads",), "(list (spawn (fn () (tell 'a))) (spawn (fn () (tell 'b))) (run-all) (run-all))", "(none none none none)", "a", "b")
        self.check(("threads",), self.SAY + "(spawn (fn () (say 'a 2))) (spawn (fn () (say 'b 3))) (spawn (fn () (say 'c 1))) (run-all)", "none",
                   "(a 2)", "(b 3)", "(c 1)", "none", "(a 1)", "none", "(b 2)", "none", "none", "none", "(b 1)", "none")

    def test_none_waits(self):
        self.check(("threads",), "(run-all)", "none")

    def test_spawned_by_one_that_runs(self):
        self.check(("threads",), "(spawn (fn () (do (tell 1) (spawn (fn () (tell 'new))) (rest-a-while) (tell 2)))) (spawn (fn () (tell 'b))) (run-all)",
                   "none", "1", "b", "new", "2")

    def test_drawn_ones(self):
        chance = random.Random(6)
        for _ in range(15):
            laps = [chance.randint(0, 4) for _ in range(chance.randint(0, 20))]
            text = "(def say (fn (n k) (when (less 0 k) (tell (list n k)) (rest-a-while) (say n (sub k 1))))) "
            text += " ".join(f"(spawn (fn () (say {number} {many})))" for number, many in enumerate(laps)) + " (run-all)"
            waiting, told = [(number, many) for number, many in enumerate(laps)], []
            while waiting:
                number, many = waiting.pop(0)
                if many:
                    told.append(f"({number} {many})")
                    waiting.append((number, many - 1))
            self.assertEqual(run(with_parts(("threads",), text), (), 14999), ("ended", "none", tuple(told)))

    def test_what_they_share(self):
        self.check(("threads",), "(def c (cell 0)) (def add-one (fn (n) (when (less 0 n) (let ((held (get c))) (rest-a-while) (put c (add held 1))) (add-one (sub n 1))))) "
                   "(spawn (fn () (add-one 3))) (spawn (fn () (add-one 3))) (run-all) (get c)", "3")

    def test_a_fault_goes_to_run_all_and_the_others_wait_on(self):
        self.check(("threads",), "(spawn (fn () (do (rest-a-while) (head 5)))) (spawn (fn () (do (tell 'b) (rest-a-while) (tell 'c)))) "
                   "(tell (try run-all list)) (tell 'between) (run-all)", "none", "b", "(kind)", "between", "c")
        self.check_fault(("threads",), "(spawn (fn () (fail 'x))) (run-all)", "x")

    def test_winds_between(self):
        self.check(("threads",), "(spawn (fn () (wound a (rest-a-while) (tell 1)))) (spawn (fn () (tell 'b))) (run-all)", "none",
                   "(in a)", "(out a)", "b", "(in a)", "1", "(out a)")

    def test_what_is_told_back_is_dropped(self):
        self.check(("threads",), "(spawn (fn () 5)) (spawn list) (list (run-all))", "(none)")

    def test_run_all_within_one_that_runs(self):
        self.check(("threads",), "(spawn (fn () (do (spawn (fn () (do (tell 'in) (rest-a-while) (tell 'in-again)))) (run-all) (tell 'out)))) "
                   "(spawn (fn () (tell 'b))) (run-all)", "none", "b", "in", "in-again", "out")

    def test_very_many_at_one_depth(self):
        whole = with_parts(("threads",), "(def go (fn () (do (tell 'here) (rest-a-while) (go)))) (spawn go) (spawn go) (run-all)")
        machine, depths = Machine(Program(whole), ()), set()
        while len(machine.told) < 200:
            told = len(machine.told)
            machine.step()
            if len(machine.told) > told and told > 3:
                depths.add(machine.depth)
        self.assertEqual(len(depths), 1)


class Undo(Library):

    def test_lent(self):
        self.check(("undo",), "(def c (cell 1)) (list (lent c 5 (fn () (do (tell (get c)) (put c 6) 'told))) (get c) (lent c 7 (fn () (get c))) (get c))",
                   "(told 1 7 1)", "5")

    def test_left_by_a_fault_and_by_a_rest(self):
        self.check(("undo",), "(def c (cell 1)) (list (try (fn () (lent c 5 (fn () (fail (get c))))) list) (get c) "
                   "(keep (fn (k) (lent c 6 (fn () (k (get c)))))) (get c))", "((5) 1 6 1)")

    def test_entered_again_it_holds_what_it_held_last_within(self):
        text = ("(def c (cell 'out)) (def k none) (def n 0) (lent c 0 (fn () (do (keep (fn (r) (set k r))) (put c (add (get c) 1)) (tell (get c))))) "
                "(tell (get c)) (put c (list 'out n)) (set n (add n 1)) (if (less n 4) (k 0) (get c))")
        self.check(("undo",), text, "(out 3)", "1", "out", "2", "(out 0)", "3", "(out 1)", "4", "(out 2)")

    def test_within_one_another(self):
        self.check(("undo",), "(def c (cell 1)) (def d (cell 2)) (lent c 3 (fn () (do (tell (list (get c) (get d))) (lent d 4 (fn () (lent c 5 (fn () "
                   "(tell (list (get c) (get d))))))) (tell (list (get c) (get d)))))) (list (get c) (get d))", "(1 2)", "(3 2)", "(5 4)", "(3 2)")

    def test_cut_off_and_put_on_again(self):
        self.check(("undo",), "(def c (cell 1)) (def p (prompt (fn () (lent c 5 (fn () (do (part (fn (k) k)) (put c (add (get c) 1)) (get c))))))) "
                   "(tell (get c)) (tell (p 0)) (put c 2) (tell (p 0)) (get c)", "2", "1", "6", "7")

    def test_caught(self):
        self.check(("undo",), "(list (caught (fn () 1) 2) (caught (fn () (head 5)) 2) (caught (fn () (fail 'x)) 'd) (caught 5 3) (caught (fn () no) 4))", "(1 2 d 3 no)")
        self.check(("undo",), "(caught (fn () (wound a (fail 1))) 'd)", "d", "(in a)", "(out a)")

    def test_kept_if(self):
        self.check(("undo",), "(def c (cell 1)) (list (kept-if c (fn () (do (put c 2) 'yes))) (get c) (kept-if c (fn () (do (put c 3) no))) (get c) "
                   "(kept-if c (fn () (do (put c 4) (head 5)))) (get c) (kept-if c (fn () (do (put c 5) none))) (get c))", "(yes 2 no 2 no 2 none 5)")
        self.check(("undo",), "(def c (cell 1)) (def d (cell 1)) (list (kept-if c (fn () (do (put c 2) (put d 2) (kept-if d (fn () (do (put d 3) (fail 1)))) (get d)))) "
                   "(get c) (get d))", "(2 2 2)")

    def test_kept_if_with_winds(self):
        self.check(("undo",), "(def c (cell 1)) (list (kept-if c (fn () (wind (fn () (put c 2)) (fn () (fail 1)) (fn () (put c 3))))) (get c))", "(no 1)")

    def test_no_cell(self):
        self.check_fault(("undo",), "(kept-if 5 list)", "kind")
        self.check_fault(("undo",), "(lent 5 1 list)", "kind")


class Together(Library):

    def test_within_one_another(self):
        self.check(ALL, "(def g (generator (fn (yield) (map yield (range 5))))) (def h (generator (fn (yield) (map (fn (l) (yield (fold add 0 l))) (all (fn () (list (choose '(1 2)) "
                   "(choose '(10 20))))))))) (spawn (fn () (do (tell (taken g 2)) (rest-a-while) (tell (taken h 3))))) (spawn (fn () (do (tell (next h)) (rest-a-while) "
                   "(tell (sorted (reverse (taken g 9))))))) (run-all)", "none", "(0 1)", "11", "(21 12 22)", "(2 3 4)")

    def test_searches_in_generators_and_lists_in_searches(self):
        self.check(ALL, "(def g (generator (fn (yield) (yield (all (fn () (count (filter (fn (x) (less x (choose '(2 3)))) '(1 2)))))) (yield (first (fn () (choose '(7))))))))"
                   "(taken g 5)", self.worth_of_search())

    def worth_of_search(self):
        ways = [sum(1 for thing, bound in zip((1, 2), (first, second)) if thing < bound) for first in (2, 3) for second in (2, 3)]
        return f"({listed(ways)} 7)"

    def test_lent_and_winds_around_generators_and_threads(self):
        self.check(ALL, "(def c (cell 'out)) (def g (generator (fn (yield) (lent c 'within (fn () (do (yield (get c)) (put c 'changed) (yield 1) (yield (get c)))))))) "
                   "(tell (list (next g) (get c))) (tell (list (next g) (get c))) (tell (list (next g) (get c))) "
                   "(spawn (fn () (lent c 'a (fn () (do (rest-a-while) (tell (get c))))))) (spawn (fn () (tell (get c)))) (run-all) (get c)", "out",
                   "(within out)", "(1 out)", "(changed out)", "out", "a")

    def test_ten_calls_take_fewer_than_15000_turns(self):
        ten = "'(9 3 7 1 8 2 6 4 5 0)"
        calls = [f"(append {ten} {ten})", f"(reverse {ten})", f"(map (fn (x) (sorted {ten})) {ten})", f"(filter (fn (x) (has? x {ten})) {ten})",
                 f"(fold (fn (s x) (add s (count {ten}))) 0 {ten})", "(range 10)", f"(sorted {ten})", "(sorted '(9 8 7 6 5 4 3 2 1 0))", f"(count {ten})", f"(has? 10 {ten})"]
        for text in (" ".join(calls), "(sorted '(9 8 7 6 5 4 3 2 1 0)) " * 10, f"(map (fn (x) (map (fn (y) (add x y)) {ten})) {ten}) " * 10):
            self.assertEqual(run(with_parts(ALL, text), (), 14999)[0], "ended", text)

    def test_collected_and_at_a_bench(self):
        text = with_parts(ALL, "(def g (generator (fn (yield) (map (fn (x) (lent c x (fn () (yield (get c))))) (range 4))))) (def c (cell 'c)) "
                          "(spawn (fn () (do (tell (next g)) (rest-a-while) (tell (next g))))) (spawn (fn () (tell (all (fn () (list (choose '(1 2)) (get c))))))) "
                          "(run-all) (tell (taken g 9)) (get c)")
        told = run(text)
        self.assertEqual(told, ("ended", "c", ("0", "((1 c) (2 c))", "1", "(2 3)")))
        for pace in (3, 100):
            self.assertEqual(swept(Program(text), (), 20000, pace), told)
        bench = Bench(text, ())
        while bench.ending is None:
            bench.goes(7)
            bench.undo()
            bench.steps(31)
        self.assertEqual(told_by(bench), told)


if __name__ == "__main__":
    unittest.main()
