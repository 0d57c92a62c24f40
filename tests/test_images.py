"""Section 13: an image's lines, reading one back, and the first line that cannot stand."""

import random
import unittest

from keptagain.collecting import collect, held
from keptagain.core import Program
from keptagain.errors import BadImage, NoMachine
from keptagain.images import image, read_image
from keptagain.machine import Machine

from makers import Keeper, Maker
from runs import any_values, refused, stepped, tells

TEXT = "(def c (cell '(1 . b)))\n(tell 'a) (tell '(b c))\n(def f (fn (x) (list x yes))) (list (f none) (list (ask)))"


def lines_of(text, rows, inputs=()):
    return image(stepped(Program(text), inputs, rows)).split("\n")


def behind(machine):
    """The lines of an image from `ending` on."""
    lines = image(machine).split("\n")
    return lines[[line.startswith("ending") for line in lines].index(True):]


class Lines(unittest.TestCase):

    def test_at_first(self):
        self.assertEqual(image(Machine(Program(""), ())).split("\n"),
                         ["image", "text 1", "", "inputs 0", "told 0", "turns 0", "rows 0", "marks 0", "ending on", "globals 0",
                          "now hand none", "live 1", "forms 0", "chain none"])
        self.assertEqual(image(Machine(Program("; a\n\n'x\n"), ("'a", " (b . c) ; d", "7" * 3000))).split("\n"),
                         ["image", "text 4", "; a", "", "'x", "", "inputs 3", "(quote a)", "(b . c)", "7" * 3000, "told 0", "turns 0",
                          "rows 0", "marks 0", "ending on", "globals 0", "now hand none", "live 1", "forms 0", "chain none"])

    def test_told_and_inputs_that_were_not_asked_for(self):
        machine = Machine(Program("(tell (ask)) (tell '(a)) (tell (ask)) (ask)"), ("5", "(6)", "7", "8"))
        machine.run(5)
        self.assertEqual(image(machine).split("\n")[3:9], ["inputs 2", "7", "8", "told 3", "5", "(a)"])
        machine.run(20)
        self.assertEqual(image(machine).split("\n")[3:8], ["inputs 1", "8", "told 3", "5", "(a)"])

    def test_ended(self):
        for text, *lines in (("5", "ending ended 5", "globals 0", "now ended", "live 0", "chain none"),
                             ("(def x (list 'a 2))", "ending ended none", "globals 1", "x #0", "now ended", "live 0", "chain none",
                              "pair 'a #1", "pair 2 ()"),
                             ("(fail '(a  b))", "ending fault (a b)", "globals 0", "now ended", "live 1", "forms 1", "chain none"),
                             ("(list 1 (head 5))", "ending fault kind", "globals 0", "now ended", "live 2",
                              "call 0 5 | | | !list 1", "forms 1", "chain none")):
            machine = Machine(Program(text), ())
            machine.run(100)
            self.assertEqual(behind(machine), list(lines))

    def test_globals_ascending_but_for_primitives_with_their_own_names(self):
        machine = Machine(Program("(def b 1) (def a list) (set list 2) (set add add) (set sub add) (def a.b yes) (def ab '()) (def a1 'x)"), ())
        machine.run(100)
        self.assertEqual(behind(machine)[1:9], ["globals 7", "a !list", "a.b yes", "a1 'x", "ab ()", "b 1", "list 2", "sub !add"])

    def test_what_comes_next(self):
        self.assertEqual(lines_of("(list 1 'a)", 4)[10:12], ["now run", "call 0 3 | | | !list 1 'a"])
        self.assertEqual(lines_of("5", 3)[10], "now hand 5")
        self.assertEqual(lines_of("(keep (fn (k) (k '(7))))", 8)[10:], ["now go #1 1 give #0", "live 0", "chain #1 1", "piece none 1", "forms 1"])
        self.assertEqual(lines_of("(try (fn () (fail '(7))) list)", 9)[10:],
                         ["now go #1 1 call !list #0", "live 0", "chain #1 2", "piece none 2", "try !list", "forms 1"])
        self.assertEqual(lines_of("(use 5 '(1 yes))", 5)[10], "now make 5 1 yes")
        self.assertEqual(lines_of("(use list '())", 5)[10], "now make !list")

    def test_a_frame_of_each_kind(self):
        text = ("(def k none) (wind (fn () (list (list))) (fn () (list (keep (fn (r) (set k r))))) (fn () (list (list)))) "
                "(let ((f k)) (if (same f none) (try (fn () (prompt (fn () (keep (fn (h) (wind list (fn () (h 1)) (fn () (list (list))))))))) "
                "list) (do (set k none) (f 0))))")
        machine, seen = Machine(Program(text), ()), {}
        while machine.ending is None:
            lines = image(machine).split("\n")
            at = [line.startswith("live ") for line in lines].index(True)
            for line in lines[at + 1:at + 1 + int(lines[at][5:])]:
                seen.setdefault(line.split(" ")[0], line)
            machine.step()
        self.assertEqual(sorted(seen), ["call", "entering", "forms", "going", "prompt", "try", "wind", "winding", "wound"])
        self.assertEqual([seen[word] for word in ("forms", "prompt", "try", "wound")], ["forms 0", "prompt", "try !list", "wound #1"])
        for word, start, many in (("winding", "winding #0 #1 #2", 4), ("wind", "wind 0 #", 4), ("going", "going #", 5),
                                  ("entering", "entering 0 #", 6), ("call", "call 2 3 | | | !list", 7)):
            self.assertTrue(seen[word].startswith(start), seen[word])
            self.assertEqual(len(seen[word].split(" ")), many, seen[word])

    def test_things_in_the_sequence_in_which_they_are_first_told(self):
        machine = Machine(Program("(def z '((1) 2)) (def a (list z (cell z))) (def b (fn (x) (set x a))) (def c ((fn (y) (fn () y)) a))"), ())
        machine.run(100)
        self.assertEqual(behind(machine)[1:],
                         ["globals 4", "a #3", "b #4", "c #5", "z #0", "now ended", "live 0", "chain none",
                          "pair #0 #6", "fn 3", "fn 6 #3", "pair #7 ()", "cell #0"])

    def test_what_is_quoted_is_numbered_by_bodies_rows_heads_and_tails(self):
        machine = Machine(Program("(def x '((1) (2)))\n(def y '(3))\n(def h (head (tail x)))"), ())
        machine.run(100)
        # Pairs: 0 the list, 1 (1), 2 its tail, 3 (2), 4 (3).
        self.assertEqual(behind(machine)[1:5], ["globals 3", "h #3", "x #0", "y #4"])

    def test_great_integers_in_full(self):
        machine = Machine(Program("(def x -" + "9" * 5000 + ")"), ())
        machine.run(5)
        self.assertEqual(behind(machine)[2], "x -" + "9" * 5000)
        again = read_image(image(machine))
        self.assertEqual(image(again), image(machine))

    def test_kept_in_part(self):
        text = "(def p none) (prompt (fn () (list 1 (keep (fn (k) (list 2 (part (fn (r) (set p r)))))))))"
        machine = Machine(Program(text), ())
        machine.run(100)
        self.assertEqual(behind(machine)[1:],
                         ["globals 1", "p #0", "now ended", "live 0", "chain none", "part #1 0 1 #2 2 3",
                          "piece none 1", "call 3 5 | | #3 | !list 2", "piece none 3", "call 2 5 | | | !list 1", "prompt",
                          "forms 2", "rest #2 3"])

    def test_frames_that_belong_to_none(self):
        text = "(def p none) (prompt (fn () (list 1 (part (fn (r) (set p r))))))"
        machine = Machine(Program(text), ())
        machine.run(100)
        self.assertEqual(behind(machine)[1:], ["globals 1", "p #0", "now ended", "live 0", "chain none", "part #1 2 3", "piece none 3",
                                               "call 2 5 | | | !list 1", "-", "-"])
        machine = Machine(Program("(def p none) (def q none) (prompt (fn () (part (fn (r) (set p r)))))"), ())
        machine.run(100)
        self.assertEqual(behind(machine)[1:], ["globals 2", "p #0", "q none", "now ended", "live 0", "chain none", "part"])

    def test_n_is_the_greatest_count_that_is_held_on_to(self):
        text = ("(def k none) (def l none) (def f (fn () (list 1 (keep (fn (r) (set k r)))))) (def g (fn () (list 2 (f) (keep (fn (r) (set l r)))))) "
                "(g) (set k none)")
        machine = Machine(Program(text), ())
        machine.run(100)
        # What l has: the forms frame of piece 1, and g's, copied, in a piece upon it.
        lines = behind(machine)
        self.assertEqual([line for line in lines if line.startswith(("piece", "rest", "forms"))], ["rest #3 1", "piece #4 1 1", "piece none 1", "forms 5"])
        self.assertEqual(image(read_image(image(machine))), image(machine))


class ReadBack(unittest.TestCase):

    def check(self, text, inputs=(), most=60):
        machine = Machine(Program(text), inputs)
        while True:
            told = image(machine)
            again = read_image(told)
            self.assertEqual((image(again), again.program), (told, machine.program))
            self.assertEqual({**tells(again), "things": held(machine)}, {**tells(machine), "things": again.things})
            self.assertEqual(collect(again), 0)
            whole = read_image(told)
            self.assertEqual((again.run(most), again.told, again.ending, again.rows),
                             (whole.run(most), whole.told, whole.ending, whole.rows))
            if machine.ending is not None or machine.turns >= most:
                return
            machine.step()

    def test_behind_every_row_of_small_programs(self):
        for text in ("", "5", TEXT, "(def k none) (def n 0) (wind (fn () (tell 'in)) (fn () (list (keep (fn (r) (set k r))))) (fn () (tell 'out))) "
                     "(set n (add n 1)) (if (less n 3) (k 0) 'end)",
                     "(prompt (fn () (wind list (fn () (list 1 (part (fn (k) (k (k 2)))))) list)))",
                     "(try (fn () (wind (fn () (tell 'in)) (fn () (fail '(a))) (fn () (tell 'out)))) (fn (d) (list d)))",
                     "(def f (fn (n) (if (less n 1) '() (pair n (f (sub n 1)))))) (tell (f 5))", "(fail 'x)"):
            self.check(text, ("(a . b)", "'c"))

    def test_they_go_on_alike_to_the_end(self):
        for seed in range(30):
            program = Program((Maker, Keeper)[seed % 2](seed).text())
            for rows in (5, 25, 80):
                machine = Machine(program, ())
                while machine.ending is None and machine.rows < rows:
                    machine.step()
                again = read_image(image(machine))
                self.assertEqual(machine.run(200), again.run(200))
                self.assertEqual({**tells(machine), "things": 0}, {**tells(again), "things": 0})
                self.assertEqual((image(machine), held(machine)), (image(again), held(again)))

    def test_what_is_the_very_same_stays_so(self):
        text = ("(def p '(1)) (def c (cell p)) (def q (list p c list add)) (list) "
                "(list (same (head q) p) (same (get c) p) (same (head (tail q)) c) (same (head (tail (tail q))) list) (same list add))")
        machine = Machine(Program(text), ())
        machine.run(3)
        again = read_image(image(machine))
        again.run(100)
        self.assertEqual(again.ending, ("ended", "(yes yes yes yes no)"))

    def test_by_itself(self):
        machine = stepped(Program("(def c (cell 1)) (put c 2) (tell (get c)) (tell (get c))"), (), 8)
        told = image(machine)
        again = read_image(text=told)
        again.run(100)
        self.assertEqual((image(machine=machine), machine.told), (told, ()))

    def test_equal_texts_give_machines_that_stand_alike(self):
        told = "\n".join(lines_of(TEXT, 9))
        one, other = read_image(told), read_image(told)
        self.assertFalse(one == other)
        self.assertEqual((tells(one), image(one)), (tells(other), image(other)))

    def test_deep(self):
        machine = Machine(Program("(def f (fn (n l) (if (less n 1) (head 5) (list 1 (keep (fn (k) (f (sub n 1) (pair k l)))))))) (f 1000 '())"), ())
        machine.run(20000)
        again = read_image(image(machine))
        self.assertEqual((image(again), again.depth, len(again.pieces)), (image(machine), 1001, 1000))


class FirstBadLine(unittest.TestCase):

    def images(self):
        """(lines, the number of the line `now`) of machines at several rows of several programs."""
        found = []
        for text, inputs in ((TEXT, ("(a)", "5")), ("(prompt (fn () (wind list (fn () (list 1 (part (fn (k) (k (k 2)))))) list)))", ()),
                             ("(def k none) (wind (fn () (list (list))) (fn () (list (keep (fn (r) (set k r))))) (fn () (list (list)))) "
                              "(let ((f k)) (if (same f none) 0 (do (set k none) (f 0))))", ()),
                             ("(def p none) (prompt (fn () (list 1 (part (fn (r) (set p r))))))", ())):
            machine = Machine(Program(text), inputs)
            while machine.ending is None:
                machine.step()
                if machine.rows % 4 == 0 or machine.ending is not None:
                    found.append(image(machine).split("\n"))
        return found

    def check(self, lines, number):
        self.assertEqual(refused(read_image, "\n".join(lines)), (BadImage, number), lines)

    def test_no_string(self):
        for value in any_values() + (b"image", Machine(Program(""), ())):
            if not isinstance(value, str):
                self.assertEqual(refused(read_image, value), (BadImage, 0))

    def test_cut_off(self):
        self.assertEqual(refused(read_image, ""), (BadImage, 1))
        for lines in self.images():
            for many in range(1, len(lines)):
                self.check(lines[:many], many + 1)

    def test_one_line_more(self):
        for lines in self.images():
            for line in ("", "forms 0", "pair 1 2", "chain none"):
                self.check(lines + [line], len(lines) + 1)

    def test_a_line_that_is_none(self):
        for lines in self.images():
            text = int(lines[1].split(" ")[1])
            told = [line.startswith("told ") for line in lines].index(True)
            turns = told + 1 + int(lines[told].split(" ")[1])
            for at in [0, 1, 2 + text, told, *range(turns, len(lines))]:
                for line in ("", " ", "x y", lines[at] + " ", " " + lines[at], lines[at].replace(" ", "  "), lines[at].upper(), "images"):
                    if line != lines[at] and not (line.startswith(("ending ended ", "ending fault "))):
                        self.check(lines[:at] + [line] + lines[at + 1:], at + 1)

    def line_otherwise(self, lines, start, *others):
        at = [line.startswith(start) for line in lines].index(True)
        for other in others:
            self.check(lines[:at] + [other] + lines[at + 1:], at + 1)

    def test_numbers(self):
        lines = lines_of("(tell 5)", 5)
        for word in ("turns", "rows", "marks"):
            self.line_otherwise(lines, word + " ", *[word + end for end in (" -1", " 01", " x", "", " ", " 1 1", " -0", " +1", " '1", " 1.")])
        self.line_otherwise(lines, "text ", "text 0", "text -1", "text", "text 1 ", "text x", "text 01")
        self.line_otherwise(lines, "inputs ", "inputs 101", "inputs -1", "inputs", "inputs yes")

    def test_counts_that_lack_lines(self):
        lines = lines_of("5", 2)
        end = len(lines) + 1
        for word in ("told", "text"):
            at = [line.startswith(word + " ") for line in lines].index(True)
            for many in (str(100), "9" * 30, "9" * 5000):
                self.check(lines[:at] + [f"{word} {many}"] + lines[at + 1:], end)

    def test_the_text_has_to_be_a_program(self):
        lines = lines_of("5", 2)
        for text in ("(", "if", "(if)", ")", "(def if 1)", "(a . )"):
            self.check(["image", "text 1", text] + lines[3:], 2)
            self.check(["image", "text 1", text] + ["x"], 2)
            self.check(["image", "text 1", text], 2)
            self.check(["image", "text 2", text], 4)

    def test_inputs_are_printed_data(self):
        lines = lines_of("(ask)", 2, ("(a . b)", "5"))
        for line in ("(a  . b)", "(a . b) ", "'a", "a b", "", "(a . (b))", "05", "(a", "A", "; a"):
            self.line_otherwise(lines, "(a . b)", line)

    def test_ending(self):
        lines = lines_of("5", 4)
        self.assertEqual(lines[8], "ending ended 5")
        for line in ("ending", "ending ended", "ending ended ", "ending fault ", "ending fault", "ending gone 5", "ending on 5", "ended 5", "ending  on"):
            self.line_otherwise(lines, "ending", line)
        self.assertEqual(read_image("\n".join(lines[:8] + ["ending ended a  b)"] + lines[9:])).ending, ("ended", "a  b)"))
        self.assertEqual(read_image("\n".join(lines[:8] + ["ending fault 5"] + lines[9:])).ending, ("fault", "5"))

    def test_globals(self):
        machine = Machine(Program("(def b 1) (def c 2) (def d 3)"), ())
        machine.run(1)
        lines = image(machine).split("\n")
        self.line_otherwise(lines, "c 2", "b 2", "a 2", "yes 2", "none 2", "no 2", "5 2", "- 2", "C 2", "c" * 17 + " 2", "c", "c 2 2", "c #1",
                            "c !none", "c !x", "c '", "c 'yes", "c '5", "c ''a", "c !", "c #", "c # 0", "c x", "c 02", "c -0", "c #cell", "'c 2",
                            "c (", "c (1)", ". 2", "c #-1", "c #00", "c |", "c -", "c xa", "c -a", "c aa", "c +add", "c \"a")

    def test_what_comes_next(self):
        lines = lines_of("5", 3)
        self.line_otherwise(lines, "now ", "now", "now hand", "now hand 5 5", "now go", "now go none", "now go none give", "now go none give 1 2",
                            "now go none call", "now go #0 give 1", "now go 1 give 5", "now make", "now ended 5", "now x", "now hand x", "hand 5",
                            "now go #0 1 take 5", "now go #1 1 give 5", "now go #0 -1 give 5", "now run 1")
        at = [line.startswith("now ") for line in lines].index(True)
        for line in ("forms 1", "prompt", "live 1", "call 0 0", "call 1 0 | | |", "call 0 2 | | |", "call 0 0 | |", "call 0 0 | | | |", "call -1 0 | | |",
                     "call 0 0 | | | #1", "call 0 0 1 | | |", "call 0 0 | | | 1 ", "call 0 | | |", "-"):
            self.check(lines[:at] + ["now run", line] + lines[at + 1:], at + 2)

    def test_frames(self):
        lines = lines_of("5", 3)
        self.line_otherwise(lines, "forms ", "forms", "forms -1", "forms 1 1", "prompt 1", "try", "try 1 2", "winding 1 2", "winding 1 2 3 4", "wind 1 2",
                            "wind 0 1", "wind -1 1 2", "wind x 1 2", "wound", "wound 1 2", "going", "going none", "going none give", "going #0 give 1",
                            "going none give 1 2", "going none call", "entering none give 1", "entering 0 none give", "entering 0 #1 1 give 1",
                            "entering -1 none give 1", "call 0 0 | | | #1", "-", "forms", "try #1", "")
        self.line_otherwise(lines, "chain ", "chain", "chain 0", "chain #0", "chain #1 1", "chain none 1", "chain #0 1 1", "chain #0 -1", "chain give")

    def test_numbers_of_things(self):
        text = "(def p none) (def x (list 1 (cell 2) (fn () 3))) (keep (fn (k) (set p k)))"
        machine = Machine(Program(text), ())
        machine.run(100)
        lines = image(machine).split("\n")
        self.assertEqual(lines[9:], ["globals 2", "p #0", "x #1", "now ended", "live 0", "chain none", "rest #2 1", "pair 1 #3", "piece none 1",
                                     "forms 3", "pair #4 #5", "cell 2", "pair #6 ()", "fn 2"])
        self.line_otherwise(lines, "rest ", "rest", "rest #2", "rest #3 1", "rest none 1", "rest #2 1 1", "part #2", "part #2 0", "part #2 0 1 #2",
                            "part none", "part 2 0 1", "part #2 -1 1", "piece", "piece none", "piece none x", "piece #2", "thing 1", "pair 1", "cell",
                            "fn", "fn 5", "fn -1", "fn x", "fn 0 x", "forms 3", "-")
        self.line_otherwise(lines, "pair 1 ", "pair 1 #4", "pair 1", "pair 1 2 3", "pair", "pair x #3", "cell #4", "pair 1 #3 ")
        self.line_otherwise(lines, "forms 3", "forms", "- -", "", "pair 1 2", "forms 3 3", "call 0 9 | | |", "--")
        self.line_otherwise(lines, "fn 2", "fn 5", "fn 2 #8", "fn", "pair 1", "cell", "cell 1 2", "cell #8", "rest #8 1", "rest #7")
        self.line_otherwise(lines, "piece ", "piece none", "piece none -1", "piece #9 1 1", "piece none 1 1", "piece 0 1", "piece 10 1 1", "piece a0 1 1")
        self.line_otherwise(lines, "rest ", "rest 12 1", "rest a2 1", "rest '2 1", "part 12 0 1", "part #2 0 1 a2 0 1")
        self.line_otherwise(lines, "chain ", "chain 10 1", "chain a0 1", "chain ## 1")

    def test_the_first_of_several(self):
        lines = lines_of("(list 5 (list '(6)))", 7)
        places = [at for at in range(len(lines)) if at != 2]
        for first in places:
            for second in places:
                bad = list(lines)
                bad[first] = bad[second] = "x x x"
                self.check(bad, min(first, second) + 1)
                self.check(bad[:max(first, second)], min(first, second) + 1)

    def test_what_holds_itself_is_refused_or_read(self):
        start = ["image", "text 1", "5", "inputs 0", "told 0", "turns 0", "rows 0", "marks 0", "ending on", "globals 1"]
        for rest in (["x 5", "now hand 1", "live 0", "chain #0 1", "piece #0 1 1", "forms 1"],
                     ["x 5", "now hand 1", "live 0", "chain #0 1", "piece #1 1 1", "prompt", "piece #0 1 1", "forms 1"],
                     ["x #0", "now hand 1", "live 1", "forms 1", "chain none", "pair #0 #0"],
                     ["x #0", "now hand 1", "live 1", "forms 1", "chain none", "part #1 0 1", "piece none 1", "going #1 1 give #0"],
                     ["x #0", "now hand 1", "live 1", "forms 1", "chain none", "rest #1 1", "piece none 1", "try #0"],
                     ["x #0", "now hand 1", "live 1", "forms 1", "chain none", "rest #1 1", "piece none 1", "-"],
                     ["x #0", "now hand 1", "live 1", "forms 1", "chain none", "rest #1 2", "piece none 1", "forms 1"],
                     ["x #0", "now hand 1", "live 1", "forms 1", "chain none", "rest #0 1"],
                     ["x #0", "now hand 1", "live 1", "forms 1", "chain none", "pair #1 2", "piece none 1", "forms 1"],
                     ["x 5", "now ended", "live 0", "chain none"]):
            text = "\n".join(start + rest)
            found = refused(read_image, text)
            self.assertTrue(found is None or found[0] is BadImage, rest)
            if found is None:
                self.assertEqual(image(read_image(text)), text)

    def test_what_has_the_form_but_is_no_image_is_refused_or_read(self):
        chance = random.Random(5)
        for lines in self.images():
            start = [line.startswith("turns ") for line in lines].index(True)
            words = [word for line in lines[start:] for word in line.split(" ")] + ["#0", "#1", "#2", "#3", "0", "1", "none", "-", "|", "'a", "!add"]
            for _ in range(40):
                other = list(lines)
                at = chance.randrange(start, len(lines))
                line = other[at].split(" ")
                line[chance.randrange(len(line))] = chance.choice(words)
                other[at] = " ".join(line)
                found = refused(read_image, "\n".join(other))
                self.assertTrue(found is None or found[0] is BadImage, other)


class HandedIn(unittest.TestCase):

    def test_no_machine(self):
        for value in any_values() + (Program("5"), "image"):
            self.assertEqual(refused(image, value), (NoMachine, value))

    def test_an_image_changes_nothing(self):
        machine = stepped(Program(TEXT), ("(a)",), 30)
        before = tells(machine)
        self.assertEqual(image(machine), image(machine))
        self.assertEqual(tells(machine), before)


if __name__ == "__main__":
    unittest.main()
