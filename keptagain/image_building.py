"""What an image tells, made to a State. What it has under numbers is made first, and filled then."""

from keptagain.data import NONE, Cell, Pair
from keptagain.holding import holding_of
from keptagain.image_lines import NO_FRAME
from keptagain.image_reading import PIECE, Ref
from keptagain.lines import BadLine
from keptagain.pieces import FRAME_PARTS, Made, Part, Piece, Waiting, Whole
from keptagain.state import ENDED, GO, HAND, MAKE, Running, State


def state_of(image):
    """The State that stands as the lines that were read tell."""
    builder = Builder(image)
    builder.fill_all()
    state = State(image.source, image.code, image.inputs)
    world = state.world
    world.said = image.said
    world.cells = builder.cells
    state.top = {name: builder.worth_of(told) for name, told in image.top.items()}
    state.marks = image.marks
    state.turns_begun = image.turns_begun
    state.rows_done = image.rows_done
    state.chain = builder.chain_of(image.chain)
    state.live_frames = [builder.frame_of(told) for told in reversed(image.live_frames)]
    set_coming(state, image, builder)
    state.thing_count = len(holding_of(state).held_things)
    return state


def set_coming(state, image, builder):
    """Sets what comes next."""
    told = image.coming
    need((told.word == ENDED) == (image.how_ended is not None))
    if told.word == HAND:
        state.hand(builder.worth_of(told.parts[0]))
    elif told.word == GO:
        goal, deed = told.parts
        state.go(builder.chain_of(goal), builder.deed_of(deed))
    elif told.word == MAKE:
        function, *worths = builder.worths_of(told.parts[0])
        state.make(function, worths)
    elif told.word == ENDED:
        state.how_ended = image.how_ended
        state.now = ENDED
        state.about = ()
    else:
        body, row, taken, own, pile = builder.frame_of(told.parts[0]).parts
        state.run_frame(Running(body, row, taken, list(own), list(pile)))


def need(holds):
    """BadLine, unless this holds: what has the form of an image, but is no machine's, is refused by its first line."""
    if not holds:
        raise BadLine(1)


def made_empty(told):
    """What has a number, not filled yet."""
    if told.word == "pair":
        return Pair(NONE, NONE)
    if told.word == "cell":
        return Cell()
    if told.word == "fn":
        return Made(told.parts[0], ())
    if told.word == "rest":
        return Whole(None)
    return Part(()) if told.word == "part" else Piece((), None)


class Builder:
    """Finds what stands for Refs; `numbered` is all that has a number, in sequence."""

    def __init__(self, image):
        self.numbered = list(image.code.quoted_pairs)
        self.lines = {}
        self.cells = {}
        self.laid = {}
        for told in image.told_things:
            made = made_empty(told)
            self.numbered.append(made)
            self.lines[made] = told

    def fill_all(self):
        for made, told in self.lines.items():
            if told.word == PIECE:
                self.lay(made)
            else:
                self.fill(made, told)

    def fill(self, thing, told):
        """Lets a THING hold what is told of it."""
        if told.word == "pair":
            thing.head, thing.tail = self.worths_of(told.parts)
        elif told.word == "cell":
            self.cells[thing] = self.worth_of(told.parts[0])
        elif told.word == "fn":
            thing.taken = self.worths_of(told.parts[1])
        elif told.word == "rest":
            thing.chain = self.chain_of(told.parts[0])
        else:
            thing.ranges = tuple([self.piece_range(piece, low, count) for piece, low, count in told.parts[0]])

    def lay(self, piece):
        """Lays the frames of a piece, and ahead of them those of all pieces under it."""
        waiting = {}
        while piece is not None and piece not in self.laid:
            need(piece not in waiting)
            waiting[piece] = self.chain_of(self.lines[piece].parts[0])
            piece = None if waiting[piece] is None else waiting[piece][0]
        for piece in reversed(list(waiting)):
            piece.lay([self.frame_of(told) for told in reversed(self.lines[piece].parts[1])], waiting[piece])
            self.laid[piece] = True

    # What stands for what was told.

    def worth_of(self, told):
        if not isinstance(told, Ref):
            return told
        found = self.numbered[told.number]
        need(not isinstance(found, Piece))
        return found

    def worths_of(self, told):
        return tuple([self.worth_of(worth) for worth in told])

    def deed_of(self, told):
        word, worths = told
        return (word, self.worths_of(worths))

    def chain_of(self, told):
        if told is None:
            return None
        piece, _, count = self.piece_range(told[0], 0, told[1])
        return (piece, count)

    def piece_range(self, told, low, count):
        """A piece, and which of its frames belong to something; all of these have to be told."""
        piece = self.numbered[told.number]
        need(isinstance(piece, Piece))
        frames = self.lines[piece].parts[1]
        need(low < count <= len(frames))
        need(all([frame is not None for frame in frames[len(frames) - count:len(frames) - low]]))
        return (piece, low, count)

    def frame_of(self, told):
        if told is None:
            return Waiting(NO_FRAME, ())
        kinds = FRAME_PARTS[told.word]
        return Waiting(told.word, tuple([self.part_of(kind, part) for kind, part in zip(kinds, told.parts)]))

    def part_of(self, kind, told):
        if kind == "worth":
            return self.worth_of(told)
        if kind == "worths":
            return self.worths_of(told)
        if kind == "chain":
            return self.chain_of(told)
        return self.deed_of(told) if kind == "deed" else told
