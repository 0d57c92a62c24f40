"""What the tests of runs have in common."""

from keptagain.core import Program
from keptagain.errors import KeptError
from keptagain.machine import Machine
from keptagain.meaning import meant


def run(text, inputs=(), most=20000):
    """What meant tells of text, which is what a machine tells."""
    program = Program(text)
    told = meant(program, inputs, most)
    machine = Machine(program, inputs)
    begun = machine.run(most)
    if told_by(machine) != told or machine.turns != begun or (machine.ending is None and begun != most):
        raise AssertionError((text, inputs, most, told, told_by(machine), begun))
    return told


def told_by(machine):
    """What a machine, or a bench, tells, as meant tells it."""
    return ("on", machine.told) if machine.ending is None else (*machine.ending, machine.told)


def tells(machine):
    """All that section 10 lets a machine tell."""
    return {"told": machine.told, "turns": machine.turns, "rows": machine.rows, "ending": machine.ending,
            "depth": machine.depth, "live": machine.live, "things": machine.things, "pieces": machine.pieces,
            "frames": [machine.frame(number) for number in range(machine.depth + 1)]}


def stepped(program, inputs, rows):
    """A machine on which so many rows were done."""
    machine = Machine(program, inputs)
    for _ in range(rows):
        machine.step()
    return machine


def worth(text, inputs=()):
    """What the run of text ends with, or the word fault and its datum."""
    how, datum, _ = run(text, inputs)
    return datum if how == "ended" else "fault " + datum


def refused(call, *given):
    """The error of a call, as its class and its value; None if there is none."""
    try:
        call(*given)
    except KeptError as error:
        return type(error), error.value
    return None


def turns_of(text, inputs=()):
    """How many turns the run of text wants."""
    program = Program(text)
    low, high = 0, 20000
    while low < high:
        middle = (low + high) // 2
        if meant(program, inputs, middle)[0] == "on":
            low = middle + 1
        else:
            high = middle
    return low


def any_values():
    """Values of each kind that section 2 lists, none of them a Program, a tuple of inputs, or a number of turns."""
    deep = "a"
    for lap in range(60):
        deep = [deep] if lap % 2 else (deep,)
    return (-1, 20001, 10 ** 8, True, False, None, "", "text", "a\nb", (5,), (("a",),), [], ["a"], {}, {"a": [1]},
            KeptError(1), deep)
