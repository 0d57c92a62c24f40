"""Section 11: what is kept in pieces, who shares them, and going; and section 3, (e): calls at the end."""

import unittest

from keptagain.collecting import collect, held, swept
from keptagain.core import Program
from keptagain.images import image, read_image
from keptagain.machine import Machine
from keptagain.meaning import meant

from runs import stepped, told_by


def trail(text, most=200):
    """(word, live, pieces) behind each row."""
    machine, found = Machine(Program(text), ()), []
    while machine.ending is None and len(found) < most:
        found.append((machine.step(), machine.live, machine.pieces))
    return found


def frames(machine):
    return [machine.frame(number)[0] for number in range(1, machine.depth + 1)]


class Pieces(unittest.TestCase):

    def test_keep_makes_one_of_the_live_frames(self):
        self.assertEqual(trail("(list (list (keep (fn (k) 5))))")[5:],
                         [("call", 0, (2,)), ("make", 0, (2,)), ("const", 0, (2,)), ("back", 0, (2,)), ("hand", 0, (1,)),
                          ("call", 1, (1,)), ("hand", 0, (1,)), ("end-call", 0, (1,)), ("hand", 0, ())])

    def test_no_piece_without_live_frames(self):
        found = trail("(keep (fn (a) (keep (fn (b) (keep (fn (c) 5))))))")
        self.assertEqual({pieces for _, _, pieces in found[3:-1]}, {(1,)})

    def test_kept_n_times_there_are_n_pieces_each_with_what_is_new(self):
        text = "(def f (fn (n) (if (less n 1) (list) (add 1 (keep (fn (k) (f (sub n 1)))))))) (f %d)"
        for many in (1, 2, 5, 40):
            machine = Machine(Program(text % many), ())
            while not (machine.pieces and len(machine.pieces) == many):
                machine.step()
            self.assertEqual(machine.pieces, (1,) * (many - 1) + (2,))
            self.assertEqual(image(machine).count("\nrest "), 0 if many == 0 else 1)
        machine = Machine(Program("(def all '()) (def f (fn (n) (if (less n 1) 0 (add 1 (keep (fn (k) (do (set all (pair k all)) "
                                  "(f (sub n 1))))))))) (f 30)"), ())
        machine.run(1000)
        lines = image(machine).split("\n")
        self.assertEqual(len([line for line in lines if line.startswith("piece ")]), 30)
        self.assertEqual(sorted(line.split(" ")[-1] for line in lines if line.startswith("piece ")), ["1"] * 29 + ["2"])

    def test_a_call_of_what_was_kept_leaves_the_live_frames_to_the_row_of_going(self):
        self.assertEqual(trail("(list (keep (fn (k) (list 1 (k 2)))))")[5:11],
                         [("make", 0, (2,)), ("global", 0, (2,)), ("const", 0, (2,)), ("local", 0, (2,)), ("const", 0, (2,)),
                          ("call", 1, (2,))])
        self.assertEqual(trail("(list (keep (fn (k) (list 1 (k 2)))))")[11:13], [("go", 0, (2,)), ("hand", 0, (1,))])

    def test_a_worth_takes_a_copy_of_one_frame_from_a_piece(self):
        text = "(def k none) (def f (fn () (list 2 (keep (fn (r) (set k r)))))) (list 1 (f))"
        machine = Machine(Program(text), ())
        self.assertEqual([row[1:] for row in trail(text)][-10:],
                         [(0, (3,))] * 5 + [(0, (2,)), (0, (2,)), (0, (1,)), (0, (1,)), (0, ())])
        machine.run(100)
        self.assertEqual(machine.ending, ("ended", "(1 (2 none))"))
        # The piece still has all of its frames, for the rest that was kept.
        self.assertEqual(image(machine).split("\n")[-4:-3], ["piece none 3"])

    def test_part_cuts_between_frames_of_a_piece_and_below_whole_ones(self):
        text = "(def p none) (prompt (fn () (list 1 (keep (fn (k) (list 2 (part (fn (r) (set p r)))))))))"
        machine = Machine(Program(text), ())
        while "\npart " not in image(machine):
            machine.step()
        self.assertEqual([line for line in image(machine).split("\n") if line.startswith("part ")], ["part #3 0 1 #0 2 3"])
        self.assertEqual((machine.pieces, machine.live), ((1, 3), 0))
        machine.step()
        self.assertEqual((machine.pieces, machine.live, frames(machine)), ((2,), 0, ["prompt", "forms"]))

    def test_what_is_put_on_lies_in_pieces_of_its_own(self):
        text = ("(def p none) (prompt (fn () (list 1 (keep (fn (k) (list 2 (part (fn (r) (set p r))))))))) (list 3 (p 4))")
        machine = Machine(Program(text), ())
        while len(machine.pieces) < 3:
            machine.step()
        self.assertEqual(machine.pieces, (1, 1, 3))
        self.assertEqual(frames(machine), ["call", "call", "prompt", "call", "forms"])
        machine.run(100)
        self.assertEqual(machine.ending, ("ended", "(3 (1 (2 4)))"))

    def test_nothing_above_the_prompt(self):
        machine = Machine(Program("(def p none) (prompt (fn () (part (fn (r) (set p r))))) (list 1 (p 2))"), ())
        machine.run(5)
        self.assertIn("part", image(machine).split("\n"))
        machine.run(100)
        self.assertEqual(machine.ending, ("ended", "(1 2)"))

    def test_a_fault_that_is_caught_makes_one_of_the_live_frames_and_one_that_is_not_leaves_them(self):
        found = trail("(try (fn () (list (list (head 5)))) list)")
        at = [row[0] for row in found].index("make")
        self.assertEqual(found[at + 5:], [("call", 0, (3,)), ("go", 0, (1,)), ("hand", 0, ())])
        machine = Machine(Program("(list (list (head 5)))"), ())
        machine.run(100)
        self.assertEqual((machine.live, machine.pieces), (2, ()))

    def test_part_outside_makes_no_piece_unless_it_is_caught(self):
        machine = Machine(Program("(list (part list))"), ())
        machine.run(9)
        self.assertEqual((machine.ending, machine.live, machine.pieces), (("fault", "outside"), 2, ()))

    def test_who_goes_back_changes_nothing_for_others(self):
        text = ("(def k none) (def n 0) (tell (list n (list n (keep (fn (r) (do (set k r) 'first)))))) "
                "(set n (add n 1)) (if (less n 5) (k n) 'end)")
        machine = Machine(Program(text), ())
        machine.run(1000)
        self.assertEqual(machine.told, ("(0 (0 first))", "(0 (0 1))", "(0 (0 2))", "(0 (0 3))", "(0 (0 4))"))


class Marks(unittest.TestCase):

    def marks(self, machine):
        return [line.split(" ")[1] for line in image(machine).split("\n") if line.startswith("wind ")]

    def next_mark(self, machine):
        return [line for line in image(machine).split("\n") if line.startswith("marks ")][0]

    def test_from_0_on_as_winds_are_made(self):
        machine = Machine(Program("(wind list (fn () (wind list (fn () (list (list))) list)) list) (wind list (fn () (list (list))) list)"), ())
        seen = []
        while machine.ending is None:
            if not seen or seen[-1] != self.marks(machine):
                seen.append(self.marks(machine))
            machine.step()
        self.assertEqual(seen, [[], ["0"], ["1", "0"], ["0"], [], ["2"], []])
        self.assertEqual(self.next_mark(machine), "marks 3")

    def test_kept_whole_they_stay(self):
        machine = Machine(Program("(def k none) (wind list (fn () (list (keep (fn (r) (set k r))))) list) "
                                  "(let ((f k)) (if (same f none) 0 (do (set k none) (f (list)))))"), ())
        seen = set()
        while machine.ending is None:
            seen |= set(self.marks(machine))
            machine.step()
        self.assertEqual((seen, self.next_mark(machine)), ({"0"}, "marks 1"))

    def test_put_on_they_are_new_the_oldest_one_first(self):
        machine = Machine(Program("(def p none) (prompt (fn () (wind list (fn () (wind list (fn () (list (part (fn (r) (set p r))))) list)) "
                                  "list))) (list (p 1)) (list (p 2))"), ())
        seen = []
        while machine.ending is None:
            if frames(machine).count("wind") == 2:
                seen.append(tuple(self.marks(machine)))
            machine.step()
        self.assertEqual(self.next_mark(machine), "marks 6")
        # Those of what p has, 0 and 1, are told as long as p has it.
        self.assertEqual([seen[at] for at in range(len(seen)) if at == 0 or seen[at] != seen[at - 1]],
                         [("1", "0"), ("3", "2", "1", "0"), ("5", "4", "1", "0")])

    def test_given_when_it_is_called_also_where_it_is_left_again(self):
        text = ("(def p none) (prompt (fn () (wind list (fn () (part (fn (r) (set p r)))) list))) "
                "(keep (fn (home) (wind list (fn () (p 1)) (fn () (home 2)))))")
        machine = Machine(Program(text), ())
        machine.run(1000)
        self.assertEqual((machine.ending, self.next_mark(machine)), (("ended", "2"), "marks 3"))


class Once(unittest.TestCase):
    """Section 3, (d): each wind is left by its out, and entered by its in, just once, in sequence."""

    def test_from_any_place_to_any_other(self):
        # A tree of winds, a rest kept in each; then from each of these to each other one.
        text = ("(def kept '()) (def here none) (def path '()) (def goals '()) "
                "(def at (fn (name f) (wind (fn () (do (tell (list 'in name)) (set path (pair name path)))) "
                "(fn () (do (visit name) (f))) (fn () (do (tell (list 'out name)) (set path (tail path))))))) "
                "(def visit (fn (name) (keep (fn (k) (set kept (pair (list name k) kept)))))) "
                "(def none-more (fn () 0)) "
                "(at 'a (fn () (do (at 'b (fn () (at 'c none-more))) (at 'd (fn () (do (at 'e none-more) (at 'f none-more))))))) "
                "(tell path)")
        winds = {"a": "", "b": "a", "c": "ab", "d": "a", "e": "ad", "f": "ad"}
        program = Program(text)
        machine = Machine(program, ())
        machine.run(2000)
        self.assertEqual(machine.told[-1], "()")
        for one in winds:
            for other in winds:
                going = text + (f" (def find (fn (name l) (if (same (head (head l)) name) (head (tail (head l))) (find name (tail l))))) "
                                f"(def n 0) (set n 1) (tell 'now) ((find '{one} kept) 0)")
                # In one, the second time that it is come to, going to other; there the run ends.
                going = going.replace("(do (visit name) (f))", f"(do (visit name) (if (same stage 1) (if (same name '{one}) "
                                      f"(do (set stage 2) (tell 'from) ((find '{other} kept) 0)) 0) (if (same stage 2) (fail path) (f))))")
                going = "(def stage 0) " + going.replace("(tell 'now)", "(set stage 1)")
                told = meant(Program(going), (), 2000)
                machine = Machine(Program(going), ())
                machine.run(2000)
                self.assertEqual(told_by(machine), told)
                self.assertEqual(swept(Program(going), (), 2000, 1), told)
                behind = list(told[2][told[2].index("from") + 1:])
                both = [name for name, other_name in zip(winds[one] + one, winds[other] + other) if name == other_name]
                left = [name for name in reversed(winds[one] + one) if name not in both]
                entered = [name for name in winds[other] + other if name not in both]
                self.assertEqual(behind, [f"(out {name})" for name in left] + [f"(in {name})" for name in entered])
                self.assertEqual(told[:2], ("fault", "(" + " ".join(reversed(winds[other] + other)) + ")"))


class Ends(unittest.TestCase):
    """Section 3, (e): a function that goes on by calls at its end runs at one depth."""

    def check(self, text):
        """Told is `here` whenever it begins anew; the frames that wait are the same ones each time."""
        machine = Machine(Program(text), ())
        seen = set()
        for _ in range(6000):
            told = len(machine.told)
            machine.step()
            if len(machine.told) > told:
                seen.add((machine.depth, tuple(frames(machine))))
        self.assertIsNone(machine.ending)
        self.assertGreater(len(machine.told), 50)
        self.assertEqual(len(seen), 1, text)
        collect(machine)
        self.assertLess(machine.things, 30)
        self.assertEqual(machine.things, held(machine))

    BODIES = ("(f)", "(if yes (f) 0)", "(if no 0 (f))", "(do 1 (f))", "(use f '())", "(keep (fn (k) (f)))", "(do (do (f)))",
              "((fn (x) (f)) 1)", "((fn x (f)) 1 2)", "(use use (list f '()))", "(let ((x 1)) (set x 2) (if x (use (fn () (f)) '()) 0))",
              "(cond (no 1) (else (f)))", "(and yes (f))", "(or no (f))", "(when yes (f))", "((if yes f list))", "(if (keep (fn (k) (k no))) 0 (f))",
              "(do (try (fn () (head 5)) list) (f))", "(do (prompt (fn () (part list))) (f))", "(do (wind list list list) (f))",
              "(keep (fn (k) (use f '())))", "(letrec ((g (fn () (f)))) (g))", "(loop g ((n 3)) (if (same n 0) (f) (g (sub n 1))))")

    def test_straight_and_by_all_that_stands_at_an_end(self):
        for body in self.BODIES:
            self.check("(def f (fn () (do (tell 'here) " + body + "))) (f)")

    def test_under_winds_tries_prompts(self):
        for around in ("(wind list (fn () (f)) list)", "(try (fn () (f)) list)", "(prompt (fn () (f)))", "(list 1 (f) 2)",
                       "(try (fn () (wind list (fn () (prompt (fn () (f)))) list)) list)"):
            for body in self.BODIES[:8]:
                self.check("(def f (fn () (do (tell 'here) " + body + "))) " + around)

    def test_one_function_by_another(self):
        self.check("(def f (fn (n) (do (tell 'here) (g (add n 1))))) (def g (fn (n) (if (less n 0) 0 (f (sub n 1))))) (f 0)")
        self.check("(def k none) (def f (fn () (do (keep (fn (r) (set k r))) (tell 'here) (k 0)))) (f)")
        self.check("(while yes (tell 'here))")

    def test_by_what_was_kept_in_part(self):
        self.check("(def p (prompt (fn () (do (part (fn (k) k)) (tell 'here) (part (fn (k) k)))))) (while yes (p 0))")

    def test_a_call_amid_leaves_a_frame(self):
        machine = Machine(Program("(def f (fn () (list (f)))) (f)"), ())
        depths = []
        for _ in range(20):
            machine.run(1)
            depths.append(machine.depth)
        self.assertEqual(depths, list(range(1, 21)))

    def test_a_try_within_itself_leaves_frames(self):
        machine = Machine(Program("(def f (fn () (try (fn () (f)) list))) (f)"), ())
        machine.run(300)
        self.assertEqual(frames(machine), ["try"] * 100 + ["forms"])


if __name__ == "__main__":
    unittest.main()
