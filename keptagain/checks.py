"""What is handed in, looked at."""

from keptagain.errors import BadInputs, BadMost, BadText
from keptagain.reading import datum_in

MOST_INPUTS = 100
MOST_TURNS = 20000


def input_data(inputs):
    """The data of inputs; BadInputs, unless they are strings of one datum each."""
    if not isinstance(inputs, tuple) or len(inputs) > MOST_INPUTS:
        raise BadInputs(inputs)
    try:
        return [datum_in(text) for text in inputs]
    except BadText:
        raise BadInputs(inputs) from None


def is_integer_within(value, least, most):
    """Whether value is an integer, no bool, from least to most."""
    return isinstance(value, int) and not isinstance(value, bool) and least <= value <= most


def need_most(most):
    """BadMost, unless most is a number of turns."""
    if not is_integer_within(most, 0, MOST_TURNS):
        raise BadMost(most)
