"""An image read line by line. What it has under a number may come later, so that is told by a Ref at first."""

from keptagain.bodies import code_of
from keptagain.data import EMPTY, NO, NONE, YES
from keptagain.image_lines import BAR, NO_FRAME
from keptagain.lines import BadLine, LineReader, is_number
from keptagain.pieces import CALL, FRAME_PARTS
from keptagain.primitives import WANTED, Primitive
from keptagain.state import RUN
from keptagain.words import is_integer, is_name, number_of

ON = "ending on"
ENDINGS = ("ended", "fault")
PIECE = "piece"
# What stands in the lines of what has a number, but for those of pieces.
THING_PARTS = {
    "pair": ("worth", "worth"),
    "cell": ("worth",),
    "fn": ("body", "last worths"),
    "rest": ("chain",),
    "part": ("ranges",),
}
# What stands behind the word that tells what comes next.
COMING_PARTS = {
    "run": (),
    "hand": ("worth",),
    "go": ("chain", "deed"),
    "make": ("call",),
    "ended": (),
}


class Ref:
    """What an image has under a number."""

    def __init__(self, number):
        self.number = number


class Told:
    """A line of an image: its word and its parts, in which Refs stand; those of a piece are a chain and frames."""

    def __init__(self, word, parts):
        self.word = word
        self.parts = parts


class ImageReader:
    """Takes the lines of an image, and keeps what they tell; `known` is the next number that was not told yet."""

    def __init__(self, text):
        self.lines = LineReader(text)
        self.primitives = {name: Primitive(name) for name in WANTED}
        self.top = {name: self.primitives[name] for name in WANTED}
        self.lines.lone_word("image")
        self.source = self.lines.read_program()
        self.code = code_of(self.source)
        self.known = len(self.code.quoted_pairs)
        self.inputs = self.lines.read_inputs()
        self.said = self.lines.lines_counted(self.lines.counted("told"))
        self.turns_begun = self.lines.counted("turns")
        self.rows_done = self.lines.counted("rows")
        self.marks = self.lines.counted("marks")
        self.how_ended = self.read_ending()
        self.read_globals()
        self.coming = self.read_coming()
        self.live_frames = [self.read_frame() for lap in range(self.lines.counted("live"))]
        self.lines.need(self.lines.open_line() == "chain")
        self.chain = self.read_last("chain")
        self.told_things = self.read_things()

    # Lines.

    def read_ending(self):
        line = self.lines.take_line()
        if line == ON:
            return None
        word, _, text = line.removeprefix("ending ").partition(" ")
        self.lines.need(line.startswith("ending ") and word in ENDINGS and text != "")
        return (word, text)

    def read_globals(self):
        last = ""
        for lap in range(self.lines.counted("globals")):
            name = self.lines.open_line()
            self.lines.need(is_symbol(name) and name > last)
            self.top[name] = self.read_last("worth")
            last = name

    def read_coming(self):
        """The line that tells what comes next; of `run`, the running frame is its only part."""
        lines = self.lines
        lines.need(lines.open_line() == "now")
        word = lines.take_word()
        lines.need(word in COMING_PARTS)
        told = Told(word, self.read_parts(COMING_PARTS[word]))
        if word != RUN:
            return told
        running = self.read_frame()
        lines.need(running.word == CALL)
        return Told(RUN, [running])

    def read_frame(self):
        return self.read_frame_of(self.lines.open_line())

    def read_frame_of(self, word):
        """The frame of a line with this word ahead."""
        self.lines.need(word in FRAME_PARTS)
        told = Told(word, self.read_parts(FRAME_PARTS[word]))
        if word == CALL:
            self.lines.need(told.parts[1] < len(self.code.bodies[told.parts[0]].all_rows))
        return told

    def read_things(self):
        """What has the numbers that were told, but for what is quoted; and nothing else stands in the image."""
        things = []
        while len(self.code.quoted_pairs) + len(things) < self.known:
            things.append(self.read_thing())
        if not self.lines.is_over():
            raise BadLine(self.lines.at + 1)
        return things

    def read_thing(self):
        word = self.lines.open_line()
        if word == PIECE:
            return self.read_piece()
        self.lines.need(word in THING_PARTS)
        return Told(word, self.read_parts(THING_PARTS[word]))

    def read_piece(self):
        below = self.read_part("chain")
        many = self.read_last("number")
        frames = []
        while len(frames) < many:
            frames.append(self.read_piece_frame())
        return Told(PIECE, [below, frames])

    def read_piece_frame(self):
        """The frame of the next line, or None if that tells none."""
        word = self.lines.open_line()
        if word == NO_FRAME:
            self.lines.close_line()
            return None
        return self.read_frame_of(word)

    # Parts of lines.

    def read_parts(self, kinds):
        """All that stands in the rest of a line."""
        found = [self.read_part(kind) for kind in kinds]
        self.lines.close_line()
        return found

    def read_last(self, kind):
        return self.read_parts((kind,))[0]

    def read_part(self, kind):
        if kind == "number":
            return self.lines.take_number()
        if kind == "body":
            return self.read_body()
        if kind == "worth":
            return self.read_worth()
        if kind == "worths":
            self.lines.need(self.lines.take_word() == BAR)
            return self.read_worths()
        if kind == "last worths":
            return self.read_worths()
        if kind == "call":
            return [self.read_worth()] + self.read_worths()
        if kind == "chain":
            return self.read_chain()
        return self.read_deed() if kind == "deed" else self.read_ranges()

    def read_body(self):
        number = self.lines.take_number()
        self.lines.need(number < len(self.code.bodies))
        return number

    def read_worth(self):
        word = self.lines.take_word()
        if is_integer(word):
            return number_of(word)
        if word in (YES, NO, NONE, EMPTY):
            return word
        sign, behind = word[:1], word[1:]
        if sign == "#":
            return self.read_ref(behind)
        if sign == "!":
            self.lines.need(behind in self.primitives)
            return self.primitives[behind]
        self.lines.need(sign == "'" and is_symbol(behind))
        return behind

    def read_worths(self):
        """All worths up to a bar, or to the end of the line."""
        found = []
        while not self.lines.is_line_over() and self.lines.next_word() != BAR:
            found.append(self.read_worth())
        return found

    def read_ref(self, figures):
        self.lines.need(is_number(figures) and number_of(figures) <= self.known)
        number = number_of(figures)
        self.known = max(self.known, number + 1)
        return Ref(number)

    def read_numbered(self, word):
        """The Ref that word is, with the sign ahead."""
        self.lines.need(word.startswith("#"))
        return self.read_ref(word[1:])

    def read_chain(self):
        word = self.lines.take_word()
        return None if word == NONE else (self.read_numbered(word), self.lines.take_number())

    def read_deed(self):
        word = self.lines.take_word()
        self.lines.need(word in ("give", "call"))
        return (word, [self.read_worth()] if word == "give" else self.read_part("call"))

    def read_ranges(self):
        found = []
        while not self.lines.is_line_over():
            piece = self.read_numbered(self.lines.take_word())
            low = self.lines.take_number()
            found.append((piece, low, self.lines.take_number()))
        return found


def is_symbol(word):
    """Whether word is the name of a symbol."""
    return is_name(word) and word not in (YES, NO, NONE)
