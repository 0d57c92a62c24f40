"""Frames that wait, and the pieces in which they lie, shared by whoever kept them.

A chain is None, or a piece and how many of its frames count, the oldest ones. Where a frame is looked for, the chain
that is told has this frame as its newest one.
"""

from keptagain.data import Function

CALL = "call"
FORMS = "forms"
PROMPT = "prompt"
TRY = "try"
WINDING = "winding"
WIND = "wind"
WOUND = "wound"
GOING = "going"
ENTERING = "entering"
# The frames that are looked for among those that wait.
SOUGHT = (PROMPT, TRY, WIND)

# What the parts of each frame are, in sequence. A deed is ("give", (worth,)), or ("call", (function, worth, ..)).
FRAME_PARTS = {
    "call": ("body", "number", "worths", "worths", "worths"),
    "forms": ("number",),
    "prompt": (),
    "try": ("worth",),
    "winding": ("worth", "worth", "worth"),
    "wind": ("number", "worth", "worth"),
    "wound": ("worth",),
    "going": ("chain", "deed"),
    "entering": ("number", "chain", "deed"),
}


class Waiting:
    """A frame that waits: a word, and its parts; it never changes."""

    def __init__(self, word, parts):
        self.word = word
        self.parts = parts


class Piece:
    """Frames, the oldest one first, and the chain under them.

    It never changes once they are laid. `places` tells where the frames are that are looked for, `lower` the nearest
    of them under this piece, so that what lies between is not gone through; `under` is how many frames lie there.
    """

    def __init__(self, frames, below):
        self.lay(frames, below)

    def lay(self, frames, below):
        self.frames = tuple(frames)
        self.below = below
        self.under = depth_of(below)
        self.places = {word: [at for at, frame in enumerate(self.frames) if frame.word == word] for word in SOUGHT}
        self.lower = {word: nearest(below, word) for word in SOUGHT}


class Made(Function):
    """A function that an fn made: its body's number, and what it took from round about."""

    def __init__(self, body, taken):
        self.body = body
        self.taken = taken


class Whole:
    """A REST that was kept whole."""

    def __init__(self, chain):
        self.chain = chain


class Part:
    """A REST that was kept in part: pieces, the newest one first, each with its first frame and the one behind its
    last one."""

    def __init__(self, ranges):
        self.ranges = ranges


def depth_of(chain):
    """How many frames count in chain."""
    if chain is None:
        return 0
    piece, count = chain
    return piece.under + count


def newest_frame(chain):
    piece, count = chain
    return piece.frames[count - 1]


def chain_below(chain):
    """What lies under the newest frame of chain."""
    piece, count = chain
    return piece.below if count == 1 else (piece, count - 1)


def nearest(chain, word):
    """Where the newest frame of chain with this word is; None without."""
    if chain is None:
        return None
    piece, count = chain
    places = piece.places[word]
    many = how_many_below(places, count)
    return (piece, places[many - 1] + 1) if many > 0 else piece.lower[word]


def how_many_below(numbers, bound):
    """How many of ascending numbers are below bound."""
    low = 0
    high = len(numbers)
    while low < high:
        middle = (low + high) // 2
        if numbers[middle] < bound:
            low = middle + 1
        else:
            high = middle
    return low


def mark_of(wind):
    """The MARK of a wind frame, told by its place; None for no place."""
    return None if wind is None else newest_frame(wind).parts[0]


def wind_marked(chain, mark):
    """Where the wind frame of chain with this MARK is; None without."""
    wind = nearest(chain, WIND)
    # What lies under a wind frame is older than it, so its MARKS are lower.
    while wind is not None and mark_of(wind) > mark:
        wind = nearest(chain_below(wind), WIND)
    return wind if mark_of(wind) == mark else None


def oldest_wind_above(chain, mark):
    """Where the oldest wind frame of chain above the one with this MARK is (None: of all)."""
    above = None
    wind = nearest(chain, WIND)
    while mark_of(wind) != mark:
        above = wind
        wind = nearest(chain_below(wind), WIND)
    return above


def ranges_above(chain, ending):
    """The pieces of chain, the newest one first, each with those of its frames that lie above what ending tells."""
    stop, low = ending
    ranges = []
    piece, count = chain
    while piece != stop:
        ranges.append((piece, 0, count))
        piece, count = piece.below
    if count > low:
        ranges.append((piece, low, count))
    return tuple(ranges)
