"""Section 7 once more, word by word, to hold `meant` against: slow, and only for programs that are not deep.

A REST is a tuple of frames, the innermost one last; each frame is an object of its own.
"""

from keptagain.reading import datum_in
from keptagain.data import Pair

WANTED = {"add": 2, "sub": 2, "mul": 2, "quo": 2, "rem": 2, "less": 2, "same": 2, "not": 1, "pair": 2, "head": 1,
          "tail": 1, "list": None, "kind": 1, "cell": 1, "get": 1, "put": 2, "tell": 1, "ask": 0, "use": 2, "fail": 1,
          "keep": 1, "prompt": 1, "part": 1, "wind": 3, "try": 2}
WORDS = {"()": "empty", "yes": "truth", "no": "truth", "none": "none"}


class Frame:
    def __init__(self, word, *holds):
        self.word, self.holds = word, holds


class Cell:
    def __init__(self, worth):
        self.worth = worth


class Function:
    def __init__(self, names, body, places):
        self.names, self.body, self.places = names, body, places


class Primitive:
    def __init__(self, name):
        self.name = name


class Whole:
    def __init__(self, rest):
        self.rest = rest


class Part:
    def __init__(self, frames):
        self.frames = frames


class Fault(Exception):
    def __init__(self, datum):
        self.datum = datum


def things(datum):
    found = []
    while isinstance(datum, Pair):
        found.append(datum.head)
        datum = datum.tail
    return found


def listed(worths):
    datum = "()"
    for thing in reversed(worths):
        datum = Pair(thing, datum)
    return datum


def shown(datum):
    if isinstance(datum, (int, str)):
        return str(datum)
    if not isinstance(datum, Pair):
        return "#" + kind(datum)
    texts = []
    while isinstance(datum, Pair):
        texts.append(shown(datum.head))
        datum = datum.tail
    return "(" + " ".join(texts) + ("" if datum == "()" else " . " + shown(datum)) + ")"


def kind(datum):
    if isinstance(datum, int):
        return "number"
    if isinstance(datum, str):
        return WORDS.get(datum, "symbol")
    return {Pair: "pair", Cell: "cell", Function: "fn", Primitive: "fn"}.get(type(datum), "rest")


class Plain:
    def __init__(self, program, inputs):
        self.cores, self.inputs = program.cores, [datum_in(text) for text in inputs]
        self.top = {name: Primitive(name) for name in WANTED}
        self.told, self.turns = [], 0

    def run(self, most):
        step = self.forms(0, ())
        while True:
            word = step[0]
            if word == "ended" and not step[2]:
                return ("ended", shown(step[1]), tuple(self.told))
            if word == "fault" and "TRY" not in [frame.word for frame in step[2]]:
                return ("fault", shown(step[1]), tuple(self.told))
            if word == "call":
                if self.turns == most:
                    return ("on", tuple(self.told))
                self.turns += 1
            step = getattr(self, "do_" + word)(*step[1:])

    def forms(self, at, rest):
        if at == len(self.cores):
            return ("ended", "none", rest)
        if at + 1 < len(self.cores):
            rest += (Frame("FORMS", at + 1),)
        return ("reckon", self.cores[at], {}, rest)

    def row(self, expressions, places, rest):
        if len(expressions) > 1:
            rest += (Frame("DROP", expressions[1:], places),)
        return ("reckon", expressions[0], places, rest)

    def holder(self, name, places):
        return places if name in places else self.top

    def do_reckon(self, form, places, rest):
        if isinstance(form, int) or form in ("yes", "no", "none"):
            return ("ended", form, rest)
        if isinstance(form, str):
            if form in places:
                return ("ended", places[form][0], rest)
            return ("ended", self.top[form], rest) if form in self.top else ("fault", "nobody", rest)
        word, *parts = things(form)
        if word == "quote":
            return ("ended", parts[0], rest)
        if word == "fn":
            return ("ended", Function(parts[0], parts[1:], places), rest)
        if word == "if":
            return ("reckon", parts[0], places, rest + (Frame("IF", parts[1], parts[2], places),))
        if word == "set":
            return ("reckon", parts[1], places, rest + (Frame("SET", parts[0], places),))
        if word == "def":
            return ("reckon", parts[1], places, rest + (Frame("DEF", parts[0]),))
        if word == "do":
            return self.row(parts, places, rest)
        return ("reckon", word, places, rest + (Frame("CALL", parts, [], places),))

    def do_ended(self, worth, rest):
        """A worth comes to rest, which has a frame."""
        frame, rest = rest[-1], rest[:-1]
        return getattr(self, "at_" + frame.word)(worth, rest, *frame.holds)

    def at_FORMS(self, worth, rest, at):
        return self.forms(at, rest)

    def at_DROP(self, worth, rest, expressions, places):
        return self.row(expressions, places, rest)

    def at_IF(self, worth, rest, yes, no, places):
        return ("reckon", no if worth == "no" else yes, places, rest)

    def at_SET(self, worth, rest, name, places):
        if name in places:
            places[name][0] = worth
        elif name in self.top:
            self.top[name] = worth
        else:
            return ("fault", "nobody", rest)
        return ("ended", "none", rest)

    def at_DEF(self, worth, rest, name):
        self.top[name] = worth
        return ("ended", "none", rest)

    def at_CALL(self, worth, rest, left, worths, places):
        worths = worths + [worth]
        if left:
            return ("reckon", left[0], places, rest + (Frame("CALL", left[1:], worths, places),))
        return ("call", worths[0], worths[1:], rest)

    def at_PROMPT(self, worth, rest):
        return ("ended", worth, rest)

    def at_TRY(self, worth, rest, handler):
        return ("ended", worth, rest)

    def at_WINDING(self, worth, rest, enter, body, leave):
        return ("call", body, [], rest + (Frame("WIND", enter, leave),))

    def at_WIND(self, worth, rest, enter, leave):
        return ("call", leave, [], rest + (Frame("WOUND", worth),))

    def at_WOUND(self, worth, rest, held):
        return ("ended", held, rest)

    def at_GOING(self, worth, rest, goal, deed):
        return ("go", rest, goal, deed)

    def at_ENTERING(self, worth, rest, wind, goal, deed):
        return ("go", goal[:goal.index(wind) + 1], goal, deed)

    def do_go(self, here, goal, deed):
        for at in reversed(range(len(here))):
            if here[at].word == "WIND" and here[at] not in goal:
                return ("call", here[at].holds[1], [], here[:at] + (Frame("GOING", goal, deed),))
        for at in range(len(goal)):
            if goal[at].word == "WIND" and goal[at] not in here:
                return ("call", goal[at].holds[0], [], goal[:at] + (Frame("ENTERING", goal[at], goal, deed),))
        return deed + (goal,)

    def do_fault(self, datum, rest):
        at = max(at for at in range(len(rest)) if rest[at].word == "TRY")
        return ("go", rest, rest[:at], ("call", rest[at].holds[0], [datum]))

    def do_call(self, function, worths, rest):
        try:
            return self.called(function, worths, rest)
        except Fault as fault:
            return ("fault", fault.datum, rest)

    def called(self, function, worths, rest):
        if isinstance(function, Function):
            if function.names == "()" or isinstance(function.names, Pair):
                names = things(function.names)
                if len(names) != len(worths):
                    raise Fault("many")
                made = {name: [worth] for name, worth in zip(names, worths)}
            else:
                made = {function.names: [listed(worths)]}
            return self.row(function.body, {**function.places, **made}, rest)
        if isinstance(function, Primitive):
            if WANTED[function.name] not in (None, len(worths)):
                raise Fault("many")
            made = getattr(self, "call_" + function.name)(rest, *worths)
            return made if isinstance(made, tuple) else ("ended", made, rest)
        if not isinstance(function, (Whole, Part)):
            raise Fault("call")
        if len(worths) != 1:
            raise Fault("many")
        if isinstance(function, Whole):
            return ("go", rest, function.rest, ("ended", worths[0]))
        alike = tuple(Frame(frame.word, *frame.holds) for frame in function.frames)
        return ("go", rest, rest + (Frame("PROMPT"),) + alike, ("ended", worths[0]))

    def need(self, word, *worths):
        for worth in worths:
            if kind(worth) != word:
                raise Fault("kind")

    def reckoned(self, action, left, right):
        self.need("number", left, right)
        if abs(action(left, right)) > 10 ** 1000:
            raise Fault("great")
        return action(left, right)

    def call_add(self, rest, left, right):
        return self.reckoned(lambda left, right: left + right, left, right)

    def call_sub(self, rest, left, right):
        return self.reckoned(lambda left, right: left - right, left, right)

    def call_mul(self, rest, left, right):
        return self.reckoned(lambda left, right: left * right, left, right)

    def parted(self, at, left, right):
        self.need("number", left, right)
        if right == 0:
            raise Fault("nought")
        return divmod(left, right)[at]

    def call_quo(self, rest, left, right):
        return self.parted(0, left, right)

    def call_rem(self, rest, left, right):
        return self.parted(1, left, right)

    def call_less(self, rest, left, right):
        self.need("number", left, right)
        return "yes" if left < right else "no"

    def call_same(self, rest, left, right):
        if isinstance(left, (int, str)):
            return "yes" if type(left) is type(right) and left == right else "no"
        return "yes" if left is right else "no"

    def call_not(self, rest, worth):
        return "yes" if worth == "no" else "no"

    def call_pair(self, rest, head, tail):
        return Pair(head, tail)

    def call_head(self, rest, worth):
        if worth == "()":
            raise Fault("empty")
        self.need("pair", worth)
        return worth.head

    def call_tail(self, rest, worth):
        if worth == "()":
            raise Fault("empty")
        self.need("pair", worth)
        return worth.tail

    def call_list(self, rest, *worths):
        return listed(worths)

    def call_kind(self, rest, worth):
        return kind(worth)

    def call_cell(self, rest, worth):
        return Cell(worth)

    def call_get(self, rest, cell):
        self.need("cell", cell)
        return cell.worth

    def call_put(self, rest, cell, worth):
        self.need("cell", cell)
        cell.worth = worth
        return "none"

    def call_tell(self, rest, worth):
        text = shown(worth)
        self.told.append(text if len(text) <= 2000 else "#long")
        return "none"

    def call_ask(self, rest):
        return self.inputs.pop(0) if self.inputs else "none"

    def call_use(self, rest, function, worths):
        tail = worths
        while isinstance(tail, Pair):
            tail = tail.tail
        self.need("empty", tail)
        return ("call", function, things(worths), rest)

    def call_fail(self, rest, worth):
        raise Fault(worth)

    def call_keep(self, rest, function):
        return ("call", function, [Whole(rest)], rest)

    def call_prompt(self, rest, function):
        return ("call", function, [], rest + (Frame("PROMPT"),))

    def call_part(self, rest, function):
        places = [at for at in range(len(rest)) if rest[at].word == "PROMPT"]
        if not places:
            raise Fault("outside")
        at = places[-1] + 1
        return ("go", rest, rest[:at], ("call", function, [Part(rest[at:])]))

    def call_wind(self, rest, enter, body, leave):
        return ("call", enter, [], rest + (Frame("WINDING", enter, body, leave),))

    def call_try(self, rest, function, handler):
        return ("call", function, [], rest + (Frame("TRY", handler),))


def plainly(program, inputs, most):
    """What meant has to tell."""
    return Plain(program, inputs).run(most)
