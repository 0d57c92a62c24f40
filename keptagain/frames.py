"""What is left to do, as the plain meaning has it: frames, each upon the one below it.

A REST is its innermost frame, or None if it has no frames.
"""

from keptagain.data import Function

WIND = "wind"
PROMPT = "prompt"
TRY = "try"


class Frame:
    """A word, which tells what is done with a worth that comes, and what it is done with.

    It never changes, and is equal to itself alone. `wind` is the innermost wind's frame among those below, so that
    going from REST to REST looks at winds only, however deep both are.
    """

    def __init__(self, word, parts, below):
        self.word = word
        self.parts = parts
        self.below = below
        self.wind = innermost_wind(below)


class Places:
    """What the parameters of one call of a function hold, and the places round about that function."""

    def __init__(self, worths, outer):
        self.worths = worths
        self.outer = outer


class Closure(Function):
    """A function of fn, with the places that its names stand for."""

    def __init__(self, parameters, body, places):
        self.parameters = parameters
        self.body = body
        self.places = places


class Whole:
    """A REST that was kept whole."""

    def __init__(self, rest):
        self.rest = rest


class Part:
    """What was kept of a REST in part: the frames from top down to a prompt's, which is none of them."""

    def __init__(self, top, prompt):
        self.top = top
        self.prompt = prompt


def innermost_wind(rest):
    """The innermost frame of a wind in rest; None without."""
    if rest is None or rest.word == WIND:
        return rest
    return rest.wind


def innermost(rest, word):
    """The innermost frame in rest that has this word; None without."""
    while rest is not None and rest.word != word:
        rest = rest.below
    return rest


def has_wind(rest, wind):
    """Whether wind, a wind's frame, stands in rest."""
    found = innermost_wind(rest)
    while found is not None and found != wind:
        found = found.wind
    return found is not None


def outermost_wind_above(rest, wind):
    """The outermost wind's frame of rest above wind (None: of all); None if there is none above."""
    above = None
    found = innermost_wind(rest)
    while found != wind:
        above = found
        found = found.wind
    return above


def put_upon(rest, part):
    """Rest, a new prompt's frame upon it, and upon this new frames alike to those of part."""
    alike = []
    frame = part.top
    while frame != part.prompt:
        alike.append(frame)
        frame = frame.below
    made = Frame(PROMPT, (), rest)
    for frame in reversed(alike):
        made = Frame(frame.word, frame.parts, made)
    return made
