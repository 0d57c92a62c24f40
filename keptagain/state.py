"""How a machine stands between two rows of a run."""

from keptagain.data import NONE
from keptagain.pieces import FORMS, WIND, Piece, Waiting, chain_below, depth_of, mark_of, nearest, newest_frame
from keptagain.primitives import WANTED, Primitive, World
from keptagain.printing import datum_text

# What comes next: a row of the running frame, a worth that is handed back, going, a call that is due; or nothing.
RUN = "run"
HAND = "hand"
GO = "go"
MAKE = "make"
ENDED = "ended"


class Running:
    """The call frame that runs: its body's number, that of its next row, taken worths, locals, and its pile."""

    def __init__(self, body, row, taken, own, pile):
        self.body = body
        self.row = row
        self.taken = taken
        self.own = own
        self.pile = pile


class State:
    """All that a machine holds, and what comes next: `now`, and in `about` what it is about.

    `source` is the Program. `live_frames` are those that wait, the newest one last; `chain` is what lies under them.
    `thing_count` is how many THINGS there are: those that nothing holds are gone already, but stay counted until the
    collector works. `how_ended` is None until there is an ending.
    """

    def __init__(self, program, code, inputs):
        self.source = program
        self.code = code
        self.world = World(inputs)
        self.top = {name: Primitive(name) for name in WANTED}
        self.thing_count = len(code.quoted_pairs)
        self.marks = 0
        self.turns_begun = 0
        self.rows_done = 0
        self.live_frames = [Waiting(FORMS, (0,))]
        self.chain = None
        self.running = None
        self.how_ended = None
        self.hand(NONE)

    def hand(self, worth):
        """Worth is handed back in the next row."""
        self.now = HAND
        self.about = (worth,)

    def make(self, function, worths):
        """Function is called in the next row."""
        self.now = MAKE
        self.about = (function, tuple(worths))

    def go(self, goal, deed):
        """Going to goal, for deed, begins in the next row, or goes on there."""
        self.now = GO
        self.about = (goal, deed)

    def run_frame(self, running):
        """This frame runs from the next row on."""
        self.running = running
        self.now = RUN
        self.about = ()

    def end(self, how, datum):
        self.how_ended = (how, datum_text(datum))
        self.now = ENDED
        self.about = ()

    def put(self, word, parts):
        """Puts a frame upon those that wait."""
        self.live_frames.append(Waiting(word, parts))

    def newest(self):
        """The newest frame that waits."""
        return self.live_frames[-1] if self.live_frames else newest_frame(self.chain)

    def take_newest(self):
        """Takes the newest frame that waits off, and returns it."""
        if self.live_frames:
            return self.live_frames.pop()
        frame = newest_frame(self.chain)
        self.chain = chain_below(self.chain)
        return frame

    def seal(self):
        """Makes one piece of the live frames, if there are any."""
        if self.live_frames:
            self.rest_at((Piece(self.live_frames, self.chain), len(self.live_frames)))

    def rest_at(self, chain):
        """What waits is what counts in chain, and nothing else."""
        self.chain = chain
        self.live_frames = []

    def newest_mark(self):
        """The MARK of the newest wind frame that waits; None without."""
        for frame in reversed(self.live_frames):
            if frame.word == WIND:
                return frame.parts[0]
        return mark_of(nearest(self.chain, WIND))


def waiting_in(state):
    """How many frames wait."""
    return len(state.live_frames) + depth_of(state.chain)


def world_alike(world):
    made = World(world.inputs)
    made.said = list(world.said)
    made.asked = world.asked
    made.cells = {cell: datum for cell, datum in world.cells.items()}
    return made


def alike(state):
    """A State that stands as state does, and goes on by itself."""
    made = State(state.source, state.code, ())
    made.world = world_alike(state.world)
    made.top = dict(state.top)
    made.thing_count = state.thing_count
    made.marks = state.marks
    made.turns_begun = state.turns_begun
    made.rows_done = state.rows_done
    made.live_frames = list(state.live_frames)
    made.chain = state.chain
    made.how_ended = state.how_ended
    made.now = state.now
    made.about = state.about
    frame = state.running
    if frame is not None:
        made.running = Running(frame.body, frame.row, frame.taken, list(frame.own), list(frame.pile))
    return made
