"""Section 9: bodies, their rows, how high a pile can get; and what compiling refuses."""

import unittest

from keptagain.compiling import bodies, coded, heights
from keptagain.core import Program
from keptagain.data import Pair
from keptagain.errors import NoProgram
from keptagain.machine import Machine
from keptagain.reading import datum_in

from makers import Keeper, Maker
from runs import any_values, refused


def rows_of(text, body=0):
    return coded(Program(text))[body]


class Forms(unittest.TestCase):

    def check(self, *cases):
        for text, *rows in cases:
            self.assertEqual(rows_of(text), tuple(rows), text)

    def test_data(self):
        self.check(("5", "const 5", "back"), ("-12", "const -12", "back"), ("yes", "const yes", "back"),
                   ("no", "const no", "back"), ("none", "const none", "back"), ("'a", "const a", "back"),
                   ("'()", "const ()", "back"), ("'(1 (b . c) quote)", "const (1 (b . c) quote)", "back"),
                   ("''a", "const (quote a)", "back"), ("(quote yes)", "const yes", "back"))

    def test_a_datum_is_printed(self):
        for many, shown in ((998, True), (999, False)):
            listed = "(aa" + " a" * many + ")"
            self.check(("'" + listed, "const " + (listed if shown else "#long"), "back"))
        self.check(("7" * 2001, "const #long", "back"), ("7" * 2000, "const " + "7" * 2000, "back"))

    def test_globals(self):
        self.check(("x", "global x", "back"), ("(set x 1)", "const 1", "set-global x", "back"),
                   ("(def x y)", "global y", "def x", "back"), ("(def x (set y 1))", "const 1", "set-global y", "def x", "back"))

    def test_calls(self):
        self.check(("(f)", "global f", "end-call 0"), ("(f 1 x)", "global f", "const 1", "global x", "end-call 2"),
                   ("((f 1) (g))", "global f", "const 1", "call 1", "global g", "call 0", "end-call 1"),
                   ("(5)", "const 5", "end-call 0"), ("(def x (f))", "global f", "call 0", "def x", "back"))

    def test_do(self):
        self.check(("(do 1)", "const 1", "back"), ("(do (f) 2)", "global f", "call 0", "drop", "const 2", "back"),
                   ("(do 1 (do 2 (f)))", "const 1", "drop", "const 2", "drop", "global f", "end-call 0"),
                   ("(f (do 1 2))", "global f", "const 1", "drop", "const 2", "end-call 1"),
                   ("(do (do 1 2) 3)", "const 1", "drop", "const 2", "drop", "const 3", "back"))

    def test_if(self):
        self.check(("(if a b c)", "global a", "unless 4", "global b", "back", "global c", "back"),
                   ("(if a (f) (g))", "global a", "unless 4", "global f", "end-call 0", "global g", "end-call 0"),
                   ("(f (if a b c))", "global f", "global a", "unless 5", "global b", "jump 6", "global c", "end-call 1"),
                   ("(do (if a (f) (g)) 1)", "global a", "unless 5", "global f", "call 0", "jump 7", "global g", "call 0",
                    "drop", "const 1", "back"),
                   ("(if (if a b c) 1 2)", "global a", "unless 4", "global b", "jump 5", "global c", "unless 8", "const 1", "back",
                    "const 2", "back"),
                   ("(if a (if b 1 2) 3)", "global a", "unless 8", "global b", "unless 6", "const 1", "back", "const 2", "back",
                    "const 3", "back"),
                   ("(def x (if a 1 2))", "global a", "unless 4", "const 1", "jump 5", "const 2", "def x", "back"))

    def test_set_within(self):
        self.check(("(f (set x (set y 1)))", "global f", "const 1", "set-global y", "set-global x", "end-call 1"))

    def test_fn(self):
        self.check(("(fn x x)", "close 1 0", "back"), ("((fn () 1))", "close 1 0", "end-call 0"),
                   ("(f (fn () 1) (fn () 2))", "global f", "close 1 0", "close 2 0", "end-call 2"))


class Functions(unittest.TestCase):

    def check(self, text, *rows):
        self.assertEqual(coded(Program(text))[1:], tuple(tuple(row.split("; ")) for row in rows))

    def test_names(self):
        self.check("(fn (a b) b)", "local 1; back")
        self.check("(fn (a b) (a b))", "local 0; local 1; end-call 1")
        self.check("(fn a (f a))", "global f; local 0; end-call 1")

    def test_taken(self):
        self.check("(fn (a b) (fn () (b a b)))", "local 1; local 0; close 2 2; back", "taken 0; taken 1; taken 0; end-call 2")
        self.check("(fn (a) (fn (b) (fn (c) (a b c))))", "local 0; close 2 1; back", "taken 0; local 0; close 3 2; back",
                   "taken 0; taken 1; local 0; end-call 2")

    def test_boxed(self):
        self.check("(fn (a) (set a 1))", "box 0; const 1; set-local 0; back")
        self.check("(fn (a b c) (set c a) (set a 2) b)", "box 0; box 2; local-cell 0; set-local 2; drop; const 2; set-local 0; drop; "
                   "local 1; back")
        self.check("(fn (a) (fn () (set a a)))", "box 0; local 0; close 2 1; back", "taken-cell 0; set-taken 0; back")
        self.check("(fn a (set a 1) a)", "box 0; const 1; set-local 0; drop; local-cell 0; back")
        self.check("(fn (a) a (fn () (fn () (set a 1))))", "box 0; local-cell 0; drop; local 0; close 2 1; back",
                   "taken 0; close 3 1; back", "const 1; set-taken 0; back")

    def test_a_name_is_boxed_wherever_it_is_set(self):
        self.check("(fn (a b) (f a b) (fn () (fn () (set b 1))))",
                   "box 1; global f; local 0; local-cell 1; call 2; drop; local 1; close 2 1; back", "taken 0; close 3 1; back",
                   "const 1; set-taken 0; back")

    def test_expressions_as_of_a_do_at_an_end(self):
        self.check("(fn () 1 (f) (g))", "const 1; drop; global f; call 0; drop; global g; end-call 0")
        self.check("(fn (a) (if a (f) 2))", "local 0; unless 4; global f; end-call 0; const 2; back")
        self.check("(fn (a) (if a 1 2) 3)", "local 0; unless 4; const 1; jump 5; const 2; drop; const 3; back")

    def test_one_that_is_bound_anew_is_another(self):
        self.check("(fn (a) (fn (a) (set a 1)) a)", "close 2 0; drop; local 0; back", "box 0; const 1; set-local 0; back")

    def test_taken_in_the_sequence_in_which_they_first_stand(self):
        text = "(fn (a b c d) (fn (e) (set c (fn () (d e))) (b a c)))"
        self.check(text, "box 2; local 2; local 3; local 1; local 0; close 2 4; back",
                   "taken 1; local 0; close 3 2; set-taken 0; drop; taken 2; taken 3; taken-cell 0; end-call 2",
                   "taken 0; taken 1; end-call 1")

    def test_names_that_are_quoted_are_not_taken(self):
        self.check("(fn (a) (fn () 'a))", "close 2 0; back", "const a; back")


class Bodies(unittest.TestCase):

    def test_kinds_numbers_names(self):
        self.assertEqual(bodies(Program("")), ())
        self.assertEqual(bodies(Program("1 (macro m () ((m) 2)) (m)")), (("form", 1, (), (), ()), ("form", 2, (), (), ())))
        self.assertEqual(bodies(Program("(fn (a b) 1) (def x (fn l l)) (fn () 2)")),
                         (("form", 1, (), (), ()), ("fn", 1, ("~1", "~2"), (), ()), ("form", 2, (), (), ()),
                          ("rest", 2, ("~3",), (), ()), ("form", 3, (), (), ()), ("fn", 3, (), (), ())))

    def test_in_sequence_by_the_places_at_which_they_begin(self):
        found = bodies(Program("((fn (a) (fn (b) (fn (c) 1)) (fn (d) 2)) (fn (e) 3)) (fn (f) 4)"))
        self.assertEqual([(body[0], body[1], body[2]) for body in found],
                         [("form", 1, ()), ("fn", 1, ("~1",)), ("fn", 1, ("~2",)), ("fn", 1, ("~3",)), ("fn", 1, ("~4",)),
                          ("fn", 1, ("~5",)), ("form", 2, ()), ("fn", 2, ("~6",))])

    def test_close_tells_the_number(self):
        rows = coded(Program("1 (fn () (list (fn () 2) (fn () 3))) ((fn () 4) (fn () 5))"))
        self.assertEqual([row for body in rows for row in body if row.startswith("close")],
                         ["close 2 0", "close 3 0", "close 4 0", "close 6 0", "close 7 0"])

    def test_taken_and_boxed(self):
        found = bodies(Program("(fn (a b c) (set c 1) (fn (d) (set a (fn e (list c b d (set e a))))))"))
        self.assertEqual([body[2:] for body in found[1:]],
                         [(("~1", "~2", "~3"), (), ("~1", "~3")), (("~4",), ("~1", "~3", "~2"), ()),
                          (("~5",), ("~3", "~2", "~4", "~1"), ("~5",))])

    def test_what_set_names_stands_ahead_of_what_it_sets_to(self):
        self.assertEqual([body[3] for body in bodies(Program("(fn (a b) (fn () (set a b)) (fn () (list b (set a 1))))"))],
                         [(), (), ("~1", "~2"), ("~2", "~1")])

    def test_a_list_of_all_arguments_can_be_boxed(self):
        self.assertEqual(bodies(Program("(fn l (set l 1))"))[1], ("rest", 1, ("~1",), (), ("~1",)))


class Heights(unittest.TestCase):

    def test_in_each_row(self):
        for text, *told in (("", ), ("5", (0, 1)), ("(f 1 2)", (0, 1, 2, 3)), ("(do 1 2)", (0, 1, 0, 1)),
                            ("(f (if a b c))", (0, 1, 2, 1, 2, 1, 2)), ("(set x (f))", (0, 1, 1, 1)), ("(def x 1)", (0, 1, 1)),
                            ("(fn (a) (fn () (set a a)))", (0, 1), (0, 0, 1, 1), (0, 1, 1)),
                            ("(fn (a b) (list 1 (fn () (a b))))", (0, 1), (0, 1, 2, 3, 4, 3), (0, 1, 2))):
            self.assertEqual(heights(Program(text)), tuple(told), text)

    def test_as_high_as_the_pile_of_a_machine(self):
        for seed in range(60):
            maker = (Maker, Keeper)[seed % 2](seed)
            machine = Machine(Program(maker.text()), ())
            high = heights(machine.program)
            while machine.ending is None and machine.turns < 50:
                frame = machine.frame(0)
                if frame is not None:
                    self.assertEqual(len(frame[5]), high[frame[1]][frame[2]])
                machine.step()

    def test_one_for_each_row(self):
        for seed in range(60):
            program = Program(Maker(seed).text())
            self.assertEqual([len(body) for body in heights(program)], [len(body) for body in coded(program)])
            self.assertEqual(len(bodies(program)), len(coded(program)))


def things(datum):
    found = []
    while isinstance(datum, Pair):
        found.append(datum.head)
        datum = datum.tail
    return found


class WordByWord:
    """The rows of a program once more, from its core forms: what is at an end is written otherwise, not jumped over."""

    def __init__(self, program):
        self.cores = [datum_in(form.replace("~", "bound/")) for form in program.forms]
        self.boxed = {part.tail.head for core in self.cores for part in self.parts(core)
                      if isinstance(part, Pair) and part.head == "set"}
        self.bodies, self.number = [], 0
        for core in self.cores:
            at = len(self.bodies)
            self.bodies.append(None)
            _, *behind = things(core) if isinstance(core, Pair) else (None,)
            if isinstance(core, Pair) and core.head == "def":
                self.bodies[at] = self.rows(behind[1], False, (), ()) + ["def " + behind[0], "back"]
            else:
                self.bodies[at] = self.rows(core, True, (), ())

    def parts(self, datum):
        """Datum and all that stands in it as expressions, from left to right."""
        found = [datum]
        if isinstance(datum, Pair) and datum.head != "quote":
            skip = {"fn": 2, "set": 2, "def": 2, "if": 1, "do": 1}.get(datum.head, 0)
            for part in things(datum)[skip:]:
                found += self.parts(part)
        return found

    def names(self, fn):
        return [fn.tail.head] if isinstance(fn.tail.head, str) and fn.tail.head != "()" else things(fn.tail.head)

    def taken(self, fn):
        found = []
        inner = [name for part in self.parts(fn) if isinstance(part, Pair) and part.head == "fn" for name in self.names(part)]
        for part in self.parts(fn):
            name = part.tail.head if isinstance(part, Pair) and part.head == "set" else part
            if isinstance(name, str) and name.startswith("bound/") and name not in found + inner:
                found.append(name)
        return found

    def place(self, name, own, taken, cell=""):
        return f"local{cell} {own.index(name)}" if name in own else f"taken{cell} {taken.index(name)}"

    def rows(self, form, end, own, taken):
        back = ["back"] if end else []
        if not isinstance(form, Pair):
            if isinstance(form, int) or form in ("yes", "no", "none"):
                return [f"const {form}"] + back
            if not form.startswith("bound/"):
                return [f"global {form}"] + back
            return [self.place(form, own, taken, "-cell" if form in self.boxed else "")] + back
        word, *parts = things(form)
        if word == "quote":
            return ["const " + self.shown(parts[0])] + back
        if word == "fn":
            return self.closed(form, parts, own, taken) + back
        if word == "set":
            at = parts[0] if not parts[0].startswith("bound/") else None
            row = "set-global " + at if at else "set-" + self.place(parts[0], own, taken)
            return self.rows(parts[1], False, own, taken) + [row] + back
        if word == "do":
            return self.row_of(parts, end, own, taken)
        if word == "if":
            first = self.rows(parts[0], False, own, taken)
            second, third = (self.rows(part, end, own, taken) for part in parts[1:])
            many = len(first) + 1 + len(second) + (0 if end else 1)
            second = second if end else second + [("jump", len(third) + 1)]
            return first + [("unless", many - len(first))] + second + third
        rows = [row for part in [word] + parts for row in self.rows(part, False, own, taken)]
        return rows + [("end-call " if end else "call ") + str(len(parts))]

    def row_of(self, parts, end, own, taken):
        rows = []
        for part in parts[:-1]:
            rows += self.rows(part, False, own, taken) + ["drop"]
        return rows + self.rows(parts[-1], end, own, taken)

    def closed(self, form, parts, own, taken):
        number = len(self.bodies)
        self.bodies.append(None)
        names, takes = self.names(form), self.taken(form)
        boxes = [f"box {at}" for at, name in enumerate(names) if name in self.boxed]
        self.bodies[number] = boxes + self.row_of(parts[1:], True, names, takes)
        return [self.place(name, own, taken) for name in takes] + [f"close {number} {len(takes)}"]

    def shown(self, datum):
        if not isinstance(datum, Pair):
            return str(datum)
        texts = []
        while isinstance(datum, Pair):
            texts.append(self.shown(datum.head))
            datum = datum.tail
        return "(" + " ".join(texts) + (")" if datum == "()" else " . " + self.shown(datum) + ")")

    def coded(self):
        """Jumps and unlesses are told by how many rows on they go, up to here."""
        return tuple(tuple(row if isinstance(row, str) else f"{row[0]} {at + row[1]}" for at, row in enumerate(rows))
                     for rows in self.bodies)


class AtRandom(unittest.TestCase):

    def test_the_rows_of_programs_made_at_random(self):
        for seed in range(400):
            program = Program((Maker, Keeper)[seed % 2](seed).text())
            self.assertEqual(coded(program), WordByWord(program).coded())


class HandedIn(unittest.TestCase):

    def test_no_program(self):
        for look in (bodies, coded, heights):
            for value in any_values() + ("5", ("5",), Program):
                self.assertEqual(refused(look, value), (NoProgram, value))

    def test_equal_calls_return_equal_tuples(self):
        text = "(def f (fn (a b) (set a '(1 2)) (fn () (if a b (list a b))))) ((f 1 2))"
        program = Program(text)
        for look in (bodies, coded, heights):
            self.assertEqual(look(program), look(Program(text)))
            self.assertEqual(look(program), look(program=program))
            self.assertIsInstance(look(program), tuple)
            self.assertTrue(all(isinstance(body, tuple) for body in look(program)))
        self.assertEqual(program.forms, Program(text).forms)

    def test_long_and_deep_programs(self):
        text = "(f" + " (g 1)" * 4000 + ")"
        self.assertEqual(len(coded(Program(text))[0]), 12002)
        text = "(fn (a) " * 30 + "a" + ")" * 30
        self.assertEqual([body[3] for body in bodies(Program(text))], [()] * 31)
        text = "(fn (a) " + "(fn (b) " * 29 + "a" + ")" * 30
        self.assertEqual([body[3] for body in bodies(Program(text))], [(), ()] + [("~1",)] * 29)


if __name__ == "__main__":
    unittest.main()
