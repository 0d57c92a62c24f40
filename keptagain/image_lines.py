"""The lines of an image."""

from keptagain.data import EMPTY, NO, NONE, YES, Cell, Pair
from keptagain.holding import holding_of
from keptagain.pieces import CALL, FRAME_PARTS, Made, Part, Whole
from keptagain.primitives import Primitive
from keptagain.printing import full_text, number_text
from keptagain.state import GO, HAND, MAKE, RUN

# What is told of a frame of a piece that nothing has.
NO_FRAME = "-"
# What stands ahead of each row of worths in a call frame.
BAR = "|"


def image_lines(state):
    """All lines of the image of what stands as state tells."""
    telling = Telling(state)
    # Numbers are given as they are first told, so the lines are made in their sequence.
    lines = talk_lines(state) + count_lines(state) + telling.global_lines() + telling.next_lines()
    return lines + telling.waiting_lines() + telling.lines_of_numbers()


def talk_lines(state):
    """The program's text, the inputs that were not asked for, and what was told."""
    world = state.world
    text = state.source.text.split("\n")
    left = [full_text(datum) for datum in world.inputs[world.asked:]]
    lines = ["image", f"text {len(text)}"] + text + [f"inputs {len(left)}"] + left
    return lines + [f"told {len(world.said)}"] + world.said


def count_lines(state):
    ending = "ending on" if state.how_ended is None else "ending " + " ".join(state.how_ended)
    return [f"turns {state.turns_begun}", f"rows {state.rows_done}", f"marks {state.marks}", ending]


class Telling:
    """Numbers THINGS and pieces in the sequence in which they are first told; `coming` are those without lines yet."""

    def __init__(self, state):
        self.state = state
        self.holding = holding_of(state)
        self.numbers = {pair: number for number, pair in enumerate(state.code.quoted_pairs)}
        self.coming = []

    # Words.

    def number_word(self, told):
        """The word for the number of a THING or a piece."""
        if told not in self.numbers:
            self.numbers[told] = len(self.numbers)
            self.coming.append(told)
        return f"#{self.numbers[told]}"

    def worth_word(self, worth):
        if isinstance(worth, int):
            return number_text(worth)
        if worth in (YES, NO, NONE, EMPTY):
            return worth
        if isinstance(worth, str):
            return "'" + worth
        if isinstance(worth, Primitive):
            return "!" + worth.name
        return self.number_word(worth)

    def worth_words(self, worths):
        return [self.worth_word(worth) for worth in worths]

    def chain_words(self, chain):
        if chain is None:
            return ["none"]
        piece, count = chain
        return [self.number_word(piece), str(count)]

    def deed_words(self, deed):
        word, worths = deed
        return [word] + self.worth_words(worths)

    def part_words(self, kind, part):
        """The words for a part of a frame."""
        if kind in ("number", "body"):
            return [str(part)]
        if kind == "worth":
            return [self.worth_word(part)]
        if kind == "worths":
            return [BAR] + self.worth_words(part)
        return self.chain_words(part) if kind == "chain" else self.deed_words(part)

    def frame_line(self, word, parts):
        words = [word]
        for kind, part in zip(FRAME_PARTS[word], parts):
            words.extend(self.part_words(kind, part))
        return " ".join(words)

    # Lines.

    def global_lines(self):
        """The globals, but for the primitives that have their own names."""
        top = self.state.top
        names = [name for name in sorted(top) if not isinstance(top[name], Primitive) or top[name].name != name]
        return [f"globals {len(names)}"] + [name + " " + self.worth_word(top[name]) for name in names]

    def next_lines(self):
        """What comes next."""
        state = self.state
        words = ["now", state.now]
        if state.now == RUN:
            frame = state.running
            parts = (frame.body, frame.row, frame.taken, frame.own, frame.pile)
            return [" ".join(words), self.frame_line(CALL, parts)]
        if state.now == GO:
            goal, deed = state.about
            words.extend(self.chain_words(goal))
            words.extend(self.deed_words(deed))
        elif state.now == MAKE:
            function, worths = state.about
            words.extend(self.worth_words((function, *worths)))
        elif state.now == HAND:
            words.extend(self.worth_words(state.about))
        return [" ".join(words)]

    def waiting_lines(self):
        """The live frames, and the chain under them."""
        live = self.state.live_frames
        lines = [f"live {len(live)}"] + [self.frame_line(frame.word, frame.parts) for frame in live[::-1]]
        return lines + [" ".join(["chain"] + self.chain_words(self.state.chain))]

    def lines_of_numbers(self):
        """The lines of all that was told by its number, and of all that comes by these lines."""
        lines = []
        at = 0
        while at < len(self.coming):
            lines.extend(self.lines_of(self.coming[at]))
            at += 1
        return lines

    def lines_of(self, told):
        if isinstance(told, Pair):
            words = ["pair"] + self.worth_words((told.head, told.tail))
        elif isinstance(told, Cell):
            words = ["cell", self.worth_word(self.state.world.got(told))]
        elif isinstance(told, Made):
            words = ["fn", str(told.body)] + self.worth_words(told.taken)
        elif isinstance(told, Whole):
            words = ["rest"] + self.chain_words(told.chain)
        elif isinstance(told, Part):
            words = ["part"] + self.range_words(told.ranges)
        else:
            return self.piece_lines(told)
        return [" ".join(words)]

    def range_words(self, ranges):
        words = []
        for piece, low, count in ranges:
            words.extend([self.number_word(piece), str(low), str(count)])
        return words

    def piece_lines(self, piece):
        """The lines of a piece, with the frames that belong to what is held on to."""
        reached = self.holding.reached.get(piece, 0)
        cut = self.holding.cut.get(piece, {})
        many = max([reached] + [count for _, count in cut])
        below = piece.below if reached > 0 else None
        lines = [" ".join(["piece"] + self.chain_words(below) + [str(many)])]
        for at in reversed(range(many)):
            if at < reached or any([low <= at < count for low, count in cut]):
                lines.append(self.frame_line(piece.frames[at].word, piece.frames[at].parts))
            else:
                lines.append(NO_FRAME)
        return lines
