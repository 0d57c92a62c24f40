"""What a machine holds on to: THINGS, and frames of pieces. Nothing here recurs, however deep they hold one another."""

from keptagain.data import Cell, Pair
from keptagain.pieces import FRAME_PARTS, Made, Part, Whole
from keptagain.state import GO


class Holding:
    """What is held on to, as far as it was come to.

    `held_things` are the THINGS; `reached` tells of each piece that lies in a chain the greatest count by which one has
    it; `cut` tells of each piece of a REST in part which of its frames belong to one: (first, one behind the last).
    """

    def __init__(self):
        self.held_things = {}
        self.reached = {}
        self.cut = {}
        self.frames = {}
        self.new_things = []
        self.new_frames = []
        self.new_chains = []

    def take_worths(self, worths):
        for worth in worths:
            if isinstance(worth, (Pair, Cell, Made, Whole, Part)) and worth not in self.held_things:
                self.held_things[worth] = True
                self.new_things.append(worth)

    def take_frames(self, frames):
        self.new_frames.extend([frame for frame in frames if frame not in self.frames])

    def take_parts_of(self, frame):
        """Takes what a frame holds, unless it was come to by another way already."""
        if frame not in self.frames:
            self.frames[frame] = True
            for kind, part in zip(FRAME_PARTS[frame.word], frame.parts):
                self.take_part(kind, part)

    def take_part(self, kind, part):
        """Takes a part of a frame; numbers hold nothing."""
        if kind == "worths":
            self.take_worths(part)
        elif kind == "worth":
            self.take_worths((part,))
        elif kind == "chain":
            self.new_chains.append(part)
        elif kind == "deed":
            self.take_deed(part)

    def take_deed(self, deed):
        _, worths = deed
        self.take_worths(worths)

    def take_chain(self, chain):
        """Takes the frames that count in chain, but for those that were taken by another chain."""
        while chain is not None:
            piece, count = chain
            known = self.reached.get(piece, 0)
            if known < count:
                self.reached[piece] = count
                self.take_frames(piece.frames[known:count])
            # What lies under a piece was taken with the first chain that has it.
            chain = None if known > 0 else piece.below

    def take_ranges(self, ranges):
        for piece, low, count in ranges:
            self.cut.setdefault(piece, {})[(low, count)] = True
            self.take_frames(piece.frames[low:count])

    def take_held_by(self, thing, cells):
        """Takes what a THING holds."""
        if isinstance(thing, Pair):
            self.take_worths((thing.head, thing.tail))
        elif isinstance(thing, Cell):
            self.take_worths((cells[thing],))
        elif isinstance(thing, Made):
            self.take_worths(thing.taken)
        elif isinstance(thing, Whole):
            self.new_chains.append(thing.chain)
        else:
            self.take_ranges(thing.ranges)

    def take_all(self, cells, enough):
        """Takes, step by step, what is held by all that was taken, until there are enough THINGS (None: all of it)."""
        while len(self.held_things) != enough and (self.new_things or self.new_frames or self.new_chains):
            if self.new_things:
                self.take_held_by(self.new_things.pop(), cells)
            elif self.new_frames:
                self.take_parts_of(self.new_frames.pop())
            else:
                self.take_chain(self.new_chains.pop())


def holding_of(state, enough=None):
    """All that is held on to as state stands; where enough is told, no more of it than has so many THINGS."""
    holding = Holding()
    holding.take_worths(state.code.quoted_pairs)
    holding.take_worths(list(state.top.values()))
    frame = state.running
    if frame is not None:
        holding.take_worths(list(frame.taken) + frame.own + frame.pile)
    holding.take_frames(state.live_frames)
    holding.new_chains.append(state.chain)
    take_next(holding, state)
    holding.take_all(state.world.cells, enough)
    return holding


def take_next(holding, state):
    """Takes what the next row is about."""
    if state.now == GO:
        goal, deed = state.about
        holding.new_chains.append(goal)
        holding.take_deed(deed)
    elif state.now == "make":
        function, worths = state.about
        holding.take_worths([function, *worths])
    else:
        holding.take_worths(state.about)
