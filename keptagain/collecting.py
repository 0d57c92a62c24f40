"""The collector: what a machine holds on to, and what goes."""

from keptagain.checks import is_integer_within, need_most
from keptagain.errors import BadPace
from keptagain.holding import holding_of
from keptagain.machine import Machine, need_machine
from keptagain.running import do_row, goes_on

MOST_PACE = 1000


def held(machine):
    """How many THINGS can be come to."""
    need_machine(machine)
    return len(holding_of(machine.state).held_things)


def collect(machine):
    """Lets all THINGS go that cannot be come to, and returns how many."""
    need_machine(machine)
    return let_go(machine.state)


def let_go(state):
    """Lets all THINGS go that cannot be come to, and returns how many: of cells alone something is left of them."""
    # Where all THINGS that there are were come to, nothing goes: what else holds them need not be looked at.
    things = holding_of(state, state.thing_count).held_things
    gone = state.thing_count - len(things)
    if gone > 0:
        world = state.world
        world.cells = {cell: datum for cell, datum in world.cells.items() if cell in things}
        state.thing_count = len(things)
    return gone


def swept(program, inputs, most, pace):
    """What meant tells, by a Machine whose THINGS are collected every pace rows."""
    machine = Machine(program, inputs)
    need_most(most)
    if not is_integer_within(pace, 1, MOST_PACE):
        raise BadPace(pace)
    while goes_on(machine.state, most):
        if machine.rows % pace == 0:
            let_go(machine.state)
        do_row(machine.state)
    if machine.ending is None:
        return ("on", machine.told)
    how, datum = machine.ending
    return (how, datum, machine.told)
