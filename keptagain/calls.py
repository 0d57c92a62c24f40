"""Calls, as the machine makes them: of functions that an fn made, of primitives, and of RESTS; and faults."""

from keptagain.bodies import REST
from keptagain.data import EMPTY, list_of, pairs_in, things_of
from keptagain.pieces import (PROMPT, TRY, WIND, WINDING, Made, Part, Piece, Waiting, Whole, chain_below, nearest,
                              newest_frame, ranges_above)
from keptagain.primitives import Fault, Primitive, outcome, refusal
from keptagain.state import Running


def call(state, function, worths):
    """Calls function with worths, in the rest that waits: one TURN."""
    state.turns_begun += 1
    if isinstance(function, Made):
        call_made(state, function, worths)
    elif isinstance(function, Primitive):
        call_primitive(state, function.name, worths)
    elif not isinstance(function, (Whole, Part)):
        fault(state, "call")
    elif len(worths) != 1:
        fault(state, "many")
    else:
        goal = function.chain if isinstance(function, Whole) else put_upon(state, function)
        state.go(goal, ("give", (worths[0],)))


def call_made(state, function, worths):
    body = state.code.bodies[function.body]
    if body.kind == REST:
        state.thing_count += len(worths)
        state.run_frame(Running(function.body, 0, function.taken, [list_of(worths, EMPTY)], []))
    elif len(worths) != len(body.names):
        fault(state, "many")
    else:
        state.run_frame(Running(function.body, 0, function.taken, list(worths), []))


def call_primitive(state, name, worths):
    refused = refusal(name, worths)
    if refused is not None:
        fault(state, refused.datum)
        return
    if name in CALLING:
        action = CALLING[name]
        action(state, *worths)
        return
    worth = outcome(name, worths, state.world)
    if isinstance(worth, Fault):
        fault(state, worth.datum)
        return
    state.thing_count += made_by(name, worths, worth)
    state.hand(worth)


def made_by(name, worths, worth):
    """How many THINGS a primitive's call made; what is asked for is made when it is."""
    if name == "list":
        return len(worths)
    if name == "ask":
        return len(pairs_in(worth))
    return 1 if name in ("pair", "cell") else 0


# Primitives that leave the call that they have to make to the next row, or keep.


def call_use(state, function, listed):
    worths, _ = things_of(listed)
    state.make(function, worths)


def call_keep(state, function):
    state.seal()
    state.thing_count += 1
    state.make(function, (Whole(state.chain),))


def call_prompt(state, function):
    state.put(PROMPT, ())
    state.make(function, ())


def call_part(state, function):
    if not waits(state, PROMPT):
        fault(state, "outside")
        return
    state.seal()
    goal = nearest(state.chain, PROMPT)
    state.thing_count += 1
    state.go(goal, ("call", (function, Part(ranges_above(state.chain, goal)))))


def call_wind(state, enter, function, leave):
    state.put(WINDING, (enter, function, leave))
    state.make(enter, ())


def call_try(state, function, handler):
    state.put(TRY, (handler,))
    state.make(function, ())


CALLING = {
    "use": call_use,
    "keep": call_keep,
    "prompt": call_prompt,
    "part": call_part,
    "wind": call_wind,
    "try": call_try,
}


def waits(state, word):
    """Whether a frame with this word waits."""
    return any([frame.word == word for frame in state.live_frames]) or nearest(state.chain, word) is not None


def put_upon(state, part):
    """The rest that waits, which becomes one piece with a prompt frame at its top, and upon it part's frames."""
    state.put(PROMPT, ())
    state.seal()
    goal = state.chain
    for piece, low, count in reversed(part.ranges):
        frames = [newly_marked(state, frame) for frame in piece.frames[low:count]]
        goal = (Piece(frames, goal), len(frames))
    return goal


def newly_marked(state, frame):
    """Frame, but a wind frame is another one, with a MARK of its own."""
    if frame.word != WIND:
        return frame
    _, enter, leave = frame.parts
    return Waiting(WIND, (new_mark(state), enter, leave))


def new_mark(state):
    """The MARK of the next wind frame that is made."""
    state.marks += 1
    return state.marks - 1


# Faults.


def fault(state, datum):
    """The nearest try frame's function is called with datum, in what lies under that frame; or the run ends."""
    state.running = None
    if not waits(state, TRY):
        state.end("fault", datum)
        return
    state.seal()
    caught = nearest(state.chain, TRY)
    handler = newest_frame(caught).parts[0]
    state.go(chain_below(caught), ("call", (handler, datum)))
