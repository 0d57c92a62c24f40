"""What the tests of runs have in common."""

from keptagain.core import Program
from keptagain.errors import KeptError
from keptagain.meaning import meant


def run(text, inputs=(), most=20000):
    """What meant tells of text."""
    return meant(Program(text), inputs, most)


def worth(text, inputs=()):
    """What the run of text ends with, or the word fault and its datum."""
    how, datum, _ = run(text, inputs)
    return datum if how == "ended" else "fault " + datum


def refused(call, *given):
    """The error of a call, as its class and its value; None if there is none."""
    try:
        call(*given)
    except KeptError as error:
        return type(error), error.value
    return None


def turns_of(text, inputs=()):
    """How many turns the run of text wants."""
    program = Program(text)
    low, high = 0, 20000
    while low < high:
        middle = (low + high) // 2
        if meant(program, inputs, middle)[0] == "on":
            low = middle + 1
        else:
            high = middle
    return low


def any_values():
    """Values of each kind that section 2 lists, none of them a Program, a tuple of inputs, or a number of turns."""
    deep = "a"
    for lap in range(60):
        deep = [deep] if lap % 2 else (deep,)
    return (-1, 20001, 10 ** 8, True, False, None, "", "text", "a\nb", (5,), (("a",),), [], ["a"], {}, {"a": [1]},
            KeptError(1), deep)
