"""Bodies: one for each form of a program, and one for each fn in it, each with its rows."""

from keptagain.core import expressions_in, is_global, parts_of, word_of
from keptagain.data import Pair, pairs_in, things_of
from keptagain.syntax import is_name

FORM = "form"
FN = "fn"
REST = "rest"


class Body:
    """What is compiled of a form or of an fn; number is that of its form, from 1.

    Names are those that its fn binds, taken those that it takes from round about, boxed those of its own that are
    held in cells. Each of `all_rows` is a tuple of its word and what stands behind it.
    """

    def __init__(self, kind, number, names, taken, boxed):
        self.kind = kind
        self.number = number
        self.names = names
        self.taken = taken
        self.boxed = boxed
        self.all_rows = ()


class Code:
    """All bodies of a program, the numbers of those of its forms, and all pairs in the data of rows, in sequence."""

    def __init__(self, made):
        self.bodies = made
        self.forms = [at for at, body in enumerate(made) if body.kind == FORM]
        data = [row[1] for body in made for row in body.all_rows if row[0] == "const"]
        self.quoted_pairs = [pair for datum in data for pair in pairs_in(datum)]


class Plan:
    """What has to be known of a program ahead of its rows.

    By its fn's: the numbers of their bodies, and the names that they take; and the bound names that are set anywhere.
    """

    def __init__(self):
        self.numbers = {}
        self.taken = {}
        self.changing = {}


def code_of(program):
    """The Code of program."""
    found = [expressions_in(core) for core in program.cores]
    plan = plan_of(found)
    made = []
    for number, expressions in enumerate(found, start=1):
        body = Body(FORM, number, (), (), ())
        body.all_rows = form_rows(body, plan, expressions[0])
        made.append(body)
        made.extend([fn_body(fn, number, plan) for fn in expressions if word_of(fn) == "fn"])
    return Code(made)


def plan_of(found):
    """The Plan of forms, told by the expressions in each of them."""
    plan = Plan()
    many = 0
    for expressions in found:
        note_names(expressions[0], plan)
        many += 1
        for expression in expressions:
            if word_of(expression) == "fn":
                plan.numbers[expression] = many
                many += 1
    return plan


def fn_body(fn, number, plan):
    """The body of an fn in form number."""
    parameters = fn.tail.head
    names = names_of(fn)
    boxed = tuple([name for name in names if name in plan.changing])
    body = Body(REST if is_name(parameters) else FN, number, names, plan.taken[fn], boxed)
    body.all_rows = fn_rows(body, plan, fn.tail.tail)
    return body


def names_of(fn):
    """The names that an fn binds, in sequence."""
    parameters = fn.tail.head
    if is_name(parameters):
        return (parameters,)
    names, _ = things_of(parameters)
    return tuple(names)


def note_names(expression, plan):
    """The names that stand in expression and are bound outside of it, in the sequence in which they first stand.

    Plan takes down which of them each fn takes, and which bound names are set.
    """
    if not isinstance(expression, Pair):
        return [expression] if is_bound(expression) else []
    word = word_of(expression)
    found = {}
    if word == "set" and is_bound(expression.tail.head):
        found[expression.tail.head] = True
        plan.changing[expression.tail.head] = True
    for part in parts_of(expression):
        for name in note_names(part, plan):
            found[name] = True
    if word != "fn":
        return list(found)
    own = names_of(expression)
    taken = [name for name in found if name not in own]
    plan.taken[expression] = tuple(taken)
    return taken


def is_bound(datum):
    """Whether datum is a name that an fn binds."""
    return is_name(datum) and not is_global(datum)


class RowWriter:
    """Writes the rows of one body, expression by expression; at_end tells whether nothing is left to do behind it."""

    def __init__(self, body, plan):
        self.body = body
        self.plan = plan
        self.all_rows = []

    def put(self, word, *behind):
        self.all_rows.append((word, *behind))

    def expression(self, expression, at_end):
        if not isinstance(expression, Pair):
            self.single(expression, at_end)
            return
        word = word_of(expression)
        things, _ = things_of(expression)
        if word is None:
            self.call(things, at_end)
        elif word == "if":
            self.branches(things[1:], at_end)
        elif word == "do":
            self.sequence(things[1:], at_end)
        else:
            self.worth(word, expression, things)
            self.back(at_end)

    def back(self, at_end):
        if at_end:
            self.put("back")

    def single(self, expression, at_end):
        if not is_name(expression):
            self.put("const", expression)
        elif is_global(expression):
            self.put("global", expression)
        else:
            self.put_bound(expression, "-cell" if expression in self.plan.changing else "")
        self.back(at_end)

    def put_bound(self, name, ending):
        """Puts what stands in the place of a bound name: all of it, or what its cell holds."""
        self.put(self.holder(name) + ending, self.place(name))

    def holder(self, name):
        """Whether a bound name is the body's own, or taken by it."""
        return "local" if name in self.body.names else "taken"

    def place(self, name):
        holding = self.body.names if name in self.body.names else self.body.taken
        return holding.index(name)

    def worth(self, word, expression, things):
        """Quote, fn, set: a worth, and nothing else, is on the pile behind it."""
        if word == "quote":
            self.put("const", things[1])
        elif word == "fn":
            taken = self.plan.taken[expression]
            for name in taken:
                self.put_bound(name, "")
            self.put("close", self.plan.numbers[expression], len(taken))
        else:
            self.setting(things[1], things[2])

    def setting(self, name, expression):
        self.expression(expression, False)
        if is_global(name):
            self.put("set-global", name)
        else:
            self.put("set-" + self.holder(name), self.place(name))

    def call(self, things, at_end):
        for thing in things:
            self.expression(thing, False)
        self.put("end-call" if at_end else "call", len(things) - 1)

    def branches(self, things, at_end):
        self.expression(things[0], False)
        unless = len(self.all_rows)
        self.put("unless", None)
        self.expression(things[1], at_end)
        jump = len(self.all_rows)
        if not at_end:
            self.put("jump", None)
        self.all_rows[unless] = ("unless", len(self.all_rows))
        self.expression(things[2], at_end)
        if not at_end:
            self.all_rows[jump] = ("jump", len(self.all_rows))

    def sequence(self, things, at_end):
        for thing in things[:-1]:
            self.expression(thing, False)
            self.put("drop")
        self.expression(things[-1], at_end)


def form_rows(body, plan, core):
    """The rows of the body of a form."""
    writer = RowWriter(body, plan)
    if word_of(core) == "def":
        things, _ = things_of(core)
        writer.expression(things[2], False)
        writer.put("def", things[1])
        writer.put("back")
    else:
        writer.expression(core, True)
    return tuple(writer.all_rows)


def fn_rows(body, plan, expressions):
    """The rows of the body of an fn."""
    writer = RowWriter(body, plan)
    for name in body.boxed:
        writer.put("box", writer.place(name))
    things, _ = things_of(expressions)
    writer.sequence(things, True)
    return tuple(writer.all_rows)
