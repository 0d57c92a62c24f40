"""The plain meaning of programs, a step at a time.

Each step returns the next one: its word, and the tuple of what it is about. What is left to do, the REST, is always
the run's `rest`.
"""

from keptagain.checks import input_data, need_most
from keptagain.core import need_program
from keptagain.data import EMPTY, NO, NONE, Pair, list_of, things_of
from keptagain.frames import (PROMPT, TRY, WIND, Closure, Frame, Part, Places, Whole, has_wind, innermost,
                              innermost_wind, outermost_wind_above, put_upon)
from keptagain.primitives import WANTED, Fault, Primitive, World, outcome, refusal
from keptagain.printing import datum_text
from keptagain.syntax import is_name

# What a step does: it reckons an expression, lets a worth come to the REST, calls, faults, or ends the run.
RECKON = "reckon"
COME = "come"
CALL = "call"
FAULT = "fault"
END = "end"


class Run:
    """A run of a program: what its globals are, what it told, and what is left to do."""

    def __init__(self, cores, inputs):
        self.cores = cores
        self.world = World(inputs)
        self.top = {name: Primitive(name) for name in WANTED}
        self.rest = None

    def put(self, word, parts):
        """Puts a frame upon what is left to do."""
        self.rest = Frame(word, parts, self.rest)


def reckon_form(run, at):
    """Begins form number at, from 0; those behind it are left to do."""
    if at == len(run.cores):
        return (COME, (NONE,))
    if at + 1 < len(run.cores):
        run.put("forms", (at + 1,))
    return (RECKON, (run.cores[at], None))


# Expressions.


def reckon(run, expression, places):
    if not isinstance(expression, Pair):
        return reckon_single(run, expression, places)
    if expression.head not in EXPRESSIONS:
        return reckon_call(run, expression, places)
    action = EXPRESSIONS[expression.head]
    return action(run, expression.tail, places)


def reckon_single(run, expression, places):
    """Reckons a name, or a datum that stands for itself."""
    if not is_name(expression):
        return (COME, (expression,))
    worths = holder(run, expression, places)
    if expression not in worths:
        return (FAULT, ("nobody",))
    return (COME, (worths[expression],))


def holder(run, name, places):
    """The dict in which the worth of name stands, or would stand."""
    while places is not None:
        if name in places.worths:
            return places.worths
        places = places.outer
    return run.top


def reckon_call(run, expression, places):
    run.put("operands", (expression.tail, None, places))
    return (RECKON, (expression.head, places))


def reckon_quote(run, behind, places):
    return (COME, (behind.head,))


def reckon_fn(run, behind, places):
    return (COME, (Closure(behind.head, behind.tail, places),))


def reckon_if(run, behind, places):
    run.put("if", (behind.tail, places))
    return (RECKON, (behind.head, places))


def reckon_set(run, behind, places):
    run.put("set", (behind.head, places))
    return (RECKON, (behind.tail.head, places))


def reckon_do(run, expressions, places):
    """Reckons one expression behind the other; the last one with nothing of its own left to do."""
    if expressions.tail != EMPTY:
        run.put("do", (expressions.tail, places))
    return (RECKON, (expressions.head, places))


def reckon_def(run, behind, places):
    run.put("def", (behind.head,))
    return (RECKON, (behind.tail.head, places))


EXPRESSIONS = {
    "quote": reckon_quote,
    "fn": reckon_fn,
    "if": reckon_if,
    "set": reckon_set,
    "do": reckon_do,
    "def": reckon_def,
}


# Worths that come to frames, which were taken off.


def come(run, worth):
    frame = run.rest
    if frame is None:
        return (END, ("ended", worth))
    run.rest = frame.below
    action = FRAMES[frame.word]
    return action(run, worth, *frame.parts)


def come_to_forms(run, worth, at):
    return reckon_form(run, at)


def come_to_operands(run, worth, expressions, earlier, places):
    """Earlier are the worths that came ahead of this one, each with those ahead of it."""
    worths = Pair(worth, earlier)
    if expressions != EMPTY:
        run.put("operands", (expressions.tail, worths, places))
        return (RECKON, (expressions.head, places))
    found, _ = things_of(worths)
    function, *operands = found[::-1]
    return (CALL, (function, operands))


def come_to_if(run, worth, branches, places):
    chosen = branches.tail if worth == NO else branches
    return (RECKON, (chosen.head, places))


def come_to_set(run, worth, name, places):
    worths = holder(run, name, places)
    if name not in worths:
        return (FAULT, ("nobody",))
    worths[name] = worth
    return (COME, (NONE,))


def come_to_do(run, worth, expressions, places):
    return reckon_do(run, expressions, places)


def come_to_def(run, worth, name):
    run.top[name] = worth
    return (COME, (NONE,))


def come_to_prompt(run, worth):
    return (COME, (worth,))


def come_to_try(run, worth, handler):
    return (COME, (worth,))


def come_to_winding(run, worth, enter, function, leave):
    run.put(WIND, (enter, leave))
    return (CALL, (function, []))


def come_to_wind(run, worth, enter, leave):
    run.put("wound", (worth,))
    return (CALL, (leave, []))


def come_to_wound(run, worth, held):
    return (COME, (held,))


def come_to_going(run, worth, goal, deed):
    return go(run, goal, deed)


def come_to_entering(run, worth, wind, goal, deed):
    run.rest = wind
    return go(run, goal, deed)


FRAMES = {
    "forms": come_to_forms,
    "operands": come_to_operands,
    "if": come_to_if,
    "set": come_to_set,
    "do": come_to_do,
    "def": come_to_def,
    "prompt": come_to_prompt,
    "try": come_to_try,
    "winding": come_to_winding,
    "wind": come_to_wind,
    "wound": come_to_wound,
    "going": come_to_going,
    "entering": come_to_entering,
}


# Going, and faults.


def go(run, goal, deed):
    """Goes from what is left to do to goal; deed is the step that is done there."""
    here = innermost_wind(run.rest)
    if here is not None and not has_wind(goal, here):
        _, leave = here.parts
        run.rest = Frame("going", (goal, deed), here.below)
        return (CALL, (leave, []))
    entered = outermost_wind_above(goal, here)
    if entered is not None:
        enter, _ = entered.parts
        run.rest = Frame("entering", (entered, goal, deed), entered.below)
        return (CALL, (enter, []))
    run.rest = goal
    return deed


def fault(run, datum):
    caught = innermost(run.rest, TRY)
    if caught is None:
        return (END, ("fault", datum))
    return go(run, caught.below, (CALL, (caught.parts[0], [datum])))


# Calls.


def call(run, function, worths):
    if isinstance(function, Closure):
        return call_closure(run, function, worths)
    if isinstance(function, Primitive):
        return call_primitive(run, function.name, worths)
    if not isinstance(function, (Whole, Part)):
        return (FAULT, ("call",))
    if len(worths) != 1:
        return (FAULT, ("many",))
    goal = function.rest if isinstance(function, Whole) else put_upon(run.rest, function)
    return go(run, goal, (COME, (worths[0],)))


def call_closure(run, function, worths):
    parameters = function.parameters
    if isinstance(parameters, Pair) or parameters == EMPTY:
        names, _ = things_of(parameters)
        if len(names) != len(worths):
            return (FAULT, ("many",))
        held = {name: worth for name, worth in zip(names, worths)}
    else:
        held = {parameters: list_of(worths, EMPTY)}
    return reckon_do(run, function.body, Places(held, function.places))


def call_primitive(run, name, worths):
    refused = refusal(name, worths)
    if refused is not None:
        return (FAULT, (refused.datum,))
    if name in CALLING:
        action = CALLING[name]
        return action(run, *worths)
    worth = outcome(name, worths, run.world)
    if isinstance(worth, Fault):
        return (FAULT, (worth.datum,))
    return (COME, (worth,))


def call_use(run, function, listed):
    worths, _ = things_of(listed)
    return (CALL, (function, worths))


def call_keep(run, function):
    return (CALL, (function, [Whole(run.rest)]))


def call_prompt(run, function):
    run.put(PROMPT, ())
    return (CALL, (function, []))


def call_part(run, function):
    prompt = innermost(run.rest, PROMPT)
    if prompt is None:
        return (FAULT, ("outside",))
    return go(run, prompt, (CALL, (function, [Part(run.rest, prompt)])))


def call_wind(run, enter, function, leave):
    run.put("winding", (enter, function, leave))
    return (CALL, (enter, []))


def call_try(run, function, handler):
    run.put(TRY, (handler,))
    return (CALL, (function, []))


CALLING = {
    "use": call_use,
    "keep": call_keep,
    "prompt": call_prompt,
    "part": call_part,
    "wind": call_wind,
    "try": call_try,
}
STEPS = {"reckon": reckon, "come": come, "call": call, "fault": fault}


def meant(program, inputs, most):
    """What comes of a run: ("ended", worth, told), ("fault", datum, told), or ("on", told) behind most turns."""
    need_program(program)
    data = input_data(inputs)
    need_most(most)
    run = Run(program.cores, data)
    turns = 0
    word, about = reckon_form(run, 0)
    while word != END:
        if word == CALL:
            if turns == most:
                return ("on", tuple(run.world.said))
            turns += 1
        action = STEPS[word]
        word, about = action(run, *about)
    how, datum = about
    return (how, datum_text(datum), tuple(run.world.said))
