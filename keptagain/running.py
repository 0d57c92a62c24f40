"""Rows of a run: those of the running frame, and what comes between them."""

from keptagain.calls import call, fault
from keptagain.data import NO, NONE
from keptagain.going import come, go_on, would_call, would_call_by
from keptagain.pieces import CALL, Made
from keptagain.state import HAND, MAKE, RUN


def do_row(state):
    """Does the next row of a run that has no ending, and returns what it was."""
    state.rows_done += 1
    now = state.now
    if now == RUN:
        return do_body_row(state)
    if now == HAND:
        come(state, *state.about)
    elif now == MAKE:
        call(state, *state.about)
    else:
        go_on(state, *state.about)
    return now


def begins_turn(state):
    """Whether the next row of a run that has no ending would begin a TURN."""
    if state.now == RUN:
        return next_row(state)[0] in ("call", "end-call")
    if state.now == HAND:
        return would_call_by(state)
    return state.now == MAKE or would_call(state, *state.about)


def goes_on(state, turns):
    """Whether the next row can be done where no more than so many TURNS are to be begun in all."""
    return state.how_ended is None and (state.turns_begun < turns or not begins_turn(state))


# Rows of the running frame.


def next_row(state):
    frame = state.running
    return state.code.bodies[frame.body].all_rows[frame.row]


def do_body_row(state):
    word, *behind = next_row(state)
    frame = state.running
    frame.row += 1
    action = ROWS[word]
    action(state, frame, *behind)
    return word


def push_const(state, frame, datum):
    frame.pile.append(datum)


def push_local(state, frame, at):
    frame.pile.append(frame.own[at])


def push_taken(state, frame, at):
    frame.pile.append(frame.taken[at])


def push_local_cell(state, frame, at):
    frame.pile.append(state.world.got(frame.own[at]))


def push_taken_cell(state, frame, at):
    frame.pile.append(state.world.got(frame.taken[at]))


def push_global(state, frame, name):
    if name in state.top:
        frame.pile.append(state.top[name])
    else:
        fault(state, "nobody")


def box(state, frame, at):
    frame.own[at] = state.world.made_cell(frame.own[at])
    state.thing_count += 1


def set_local(state, frame, at):
    frame.pile.append(state.world.put(frame.own[at], frame.pile.pop()))


def set_taken(state, frame, at):
    frame.pile.append(state.world.put(frame.taken[at], frame.pile.pop()))


def set_global(state, frame, name):
    if name in state.top:
        define(state, frame, name)
    else:
        fault(state, "nobody")


def define(state, frame, name):
    state.top[name] = frame.pile.pop()
    frame.pile.append(NONE)


def close(state, frame, body, many):
    taken = popped(frame, many)
    frame.pile.append(Made(body, tuple(taken)))
    state.thing_count += 1


def popped(frame, many):
    """Takes so many worths from the pile; the uppermost one is the last of them."""
    low = len(frame.pile) - many
    worths = frame.pile[low:]
    del frame.pile[low:]
    return worths


def drop(state, frame):
    frame.pile.pop()


def jump(state, frame, at):
    frame.row = at


def jump_unless(state, frame, at):
    if frame.pile.pop() == NO:
        frame.row = at


def call_on(state, frame, many):
    """Calls; what is left of this frame waits."""
    function, *worths = popped(frame, many + 1)
    state.running = None
    state.put(CALL, (frame.body, frame.row, frame.taken, tuple(frame.own), tuple(frame.pile)))
    call(state, function, worths)


def call_at_end(state, frame, many):
    """Calls; nothing is left of this frame."""
    function, *worths = popped(frame, many + 1)
    state.running = None
    call(state, function, worths)


def hand_back(state, frame):
    state.running = None
    state.hand(frame.pile.pop())


ROWS = {
    "const": push_const,
    "local": push_local,
    "taken": push_taken,
    "local-cell": push_local_cell,
    "taken-cell": push_taken_cell,
    "global": push_global,
    "box": box,
    "set-local": set_local,
    "set-taken": set_taken,
    "set-global": set_global,
    "def": define,
    "close": close,
    "drop": drop,
    "jump": jump,
    "unless": jump_unless,
    "call": call_on,
    "end-call": call_at_end,
    "back": hand_back,
}
