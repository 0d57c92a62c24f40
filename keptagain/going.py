"""Frames that run no code, when a worth comes to them; and going from one rest to another."""

from keptagain.calls import call, new_mark
from keptagain.pieces import (ENTERING, FORMS, GOING, WIND, WINDING, WOUND, chain_below, mark_of, nearest,
                              newest_frame, oldest_wind_above, wind_marked)
from keptagain.state import Running


def come(state, worth):
    """A worth comes to the newest frame that waits."""
    frame = state.take_newest()
    action = FRAMES[frame.word]
    action(state, worth, *frame.parts)


def come_to_call(state, worth, body, row, taken, own, pile):
    state.run_frame(Running(body, row, taken, list(own), [*pile, worth]))


def come_to_forms(state, worth, begun):
    """Begins the next form of the program."""
    if begun == len(state.source.cores):
        state.end("ended", worth)
        return
    state.put(FORMS, (begun + 1,))
    state.run_frame(Running(state.code.forms[begun], 0, (), [], []))


def come_to_prompt(state, worth):
    state.hand(worth)


def come_to_try(state, worth, handler):
    state.hand(worth)


def come_to_winding(state, worth, enter, function, leave):
    state.put(WIND, (new_mark(state), enter, leave))
    call(state, function, [])


def come_to_wind(state, worth, mark, enter, leave):
    state.put(WOUND, (worth,))
    call(state, leave, [])


def come_to_wound(state, worth, held):
    state.hand(held)


def come_to_going(state, worth, goal, deed):
    state.go(goal, deed)


def come_to_entering(state, worth, mark, goal, deed):
    state.rest_at(wind_marked(goal, mark))
    state.go(goal, deed)


FRAMES = {
    "call": come_to_call,
    "forms": come_to_forms,
    "prompt": come_to_prompt,
    "try": come_to_try,
    "winding": come_to_winding,
    "wind": come_to_wind,
    "wound": come_to_wound,
    "going": come_to_going,
    "entering": come_to_entering,
}


def go_on(state, goal, deed):
    """Leaves the newest wind that goal has not, or enters the oldest one that only goal has, or is there."""
    state.seal()
    here = nearest(state.chain, WIND)
    mark = mark_of(here)
    if here is not None and wind_marked(goal, mark) is None:
        leave_wind(state, here, goal, deed)
        return
    # All winds of the present rest are goal's: those that goal has besides lie above them.
    there = oldest_wind_above(goal, mark)
    if there is not None:
        enter_wind(state, there, goal, deed)
        return
    state.rest_at(goal)
    word, worths = deed
    if word == "give":
        state.hand(*worths)
    else:
        function, *operands = worths
        call(state, function, operands)


def leave_wind(state, wind, goal, deed):
    """Leaves a wind, told by its place: what lies under it is what waits."""
    _, _, leave = newest_frame(wind).parts
    state.rest_at(chain_below(wind))
    state.put(GOING, (goal, deed))
    call(state, leave, [])


def enter_wind(state, wind, goal, deed):
    """Enters a wind of goal, told by its place: what lies under it is what waits."""
    mark, enter, _ = newest_frame(wind).parts
    state.rest_at(chain_below(wind))
    state.put(ENTERING, (mark, goal, deed))
    call(state, enter, [])


def would_call(state, goal, deed):
    """Whether the next row of going calls: a wind is left or entered, or the deed is a call."""
    return state.newest_mark() != mark_of(nearest(goal, WIND)) or deed[0] == "call"


def would_call_by(state):
    """Whether the newest frame that waits calls when a worth comes to it."""
    return state.newest().word in (WINDING, WIND)
