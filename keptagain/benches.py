"""A bench: a machine under hands, which goes forth and back."""

from keptagain.bodies import code_of
from keptagain.checks import input_data, is_integer_within
from keptagain.collecting import let_go
from keptagain.core import Program
from keptagain.errors import BadNumber, NoBlock, NothingToRedo, NothingToUndo
from keptagain.image_lines import image_lines
from keptagain.machine import machine_of, need_on
from keptagain.printing import full_text
from keptagain.running import do_row
from keptagain.state import State, alike, waiting_in

MOST_ROWS = 500


class Stand:
    """How a machine stands behind a deed, whose line this is, and the Stand ahead of it; it never changes."""

    def __init__(self, state, line, before):
        self.state = state
        self.line = line
        self.before = before
        self.number = 0 if before is None else before.number + 1


class Trial:
    """A trial that is going on: `kept` is None until its bench is told to keep it."""

    def __init__(self):
        self.kept = None


class Bench:
    """A program's machine, and the deeds that were done on it.

    `now` is how it stands, `undone` what was taken back: None, or the next Stand to be done again and what is undone
    behind it. Neither of the two is ever changed, so a trial is taken back by putting back what stood here.
    """

    def __init__(self, text, inputs):
        program = Program(text)
        data = input_data(inputs)
        self.inputs = tuple([full_text(datum) for datum in data])
        self.now = Stand(State(program, code_of(program), data), "", None)
        self.undone = None
        self.trial = None

    @property
    def program(self):
        return self.now.state.source

    @property
    def told(self):
        return tuple(self.now.state.world.said)

    @property
    def turns(self):
        return self.now.state.turns_begun

    @property
    def ending(self):
        return self.now.state.how_ended

    @property
    def deeds(self):
        return self.now.number

    def __len__(self):
        return len(range(waiting_in(self.now.state)))

    def __eq__(self, other):
        return isinstance(other, Bench) and bench_lines(self) == bench_lines(other)

    def steps(self, number):
        """Does so many rows, or as many as there are; returns how many."""
        need_number(number)
        state = self.begun()
        before = state.rows_done
        while state.how_ended is None and state.rows_done < before + number:
            do_row(state)
        self.done(state, f"rows {number}")
        return state.rows_done - before

    def goes(self, number):
        """Does rows until so many TURNS more have begun, or there is an ending; returns how many."""
        need_number(number)
        state = self.begun()
        before = state.turns_begun
        while state.how_ended is None and state.turns_begun < before + number:
            do_row(state)
        self.done(state, f"goes {number}")
        return state.turns_begun - before

    def collect(self):
        """Lets all THINGS go that cannot be come to, and returns how many."""
        state = self.begun()
        gone = let_go(state)
        self.done(state, "collect")
        return gone

    def begun(self):
        """A State like the present one, on which a deed can be done."""
        need_on(self.now.state)
        return alike(self.now.state)

    def done(self, state, line):
        """The deed that this line tells was done, and the machine stands so behind it."""
        self.now = Stand(state, line, self.now)
        self.undone = None

    def machine(self):
        """A Machine that stands as the bench's does, by itself."""
        return machine_of(alike(self.now.state))

    def image(self):
        return "\n".join(image_lines(self.now.state))

    def undo(self):
        """Takes the last deed back that stands."""
        if self.now.before is None:
            raise NothingToUndo(None)
        self.undone = (self.now, self.undone)
        self.now = self.now.before

    def redo(self):
        """Does the deed again that was taken back last."""
        if self.undone is None:
            raise NothingToRedo(None)
        self.now, self.undone = self.undone

    def tried(self, look, *, keep=False):
        """Calls look with the bench, and takes back what it did unless it is kept; returns what look returned."""
        now = self.now
        undone = self.undone
        outer = self.trial
        trial = Trial()
        self.trial = trial
        stays = None
        try:
            worth = look(self)
            stays = True if keep is True else trial.kept
        finally:
            self.trial = outer
            if stays is None:
                self.now = now
                self.undone = undone
        return worth

    def keep(self):
        """The innermost trial stays."""
        if self.trial is None:
            raise NoBlock(None)
        trial = self.trial
        trial.kept = True

    def copy(self):
        """A bench that is alike, and by itself."""
        made = Bench("", ())
        made.inputs = self.inputs
        made.now = self.now
        made.undone = self.undone
        return made


def need_number(number):
    """BadNumber, unless number is one of rows, or of turns, that a deed can be told."""
    if not is_integer_within(number, 1, MOST_ROWS):
        raise BadNumber(number)


def deed_lines(bench):
    """The lines of the deeds that stand, in sequence."""
    lines = []
    stand = bench.now
    while stand.before is not None:
        lines.append(stand.line)
        stand = stand.before
    return lines[::-1]


def bench_lines(bench):
    """The lines of bench's journal."""
    text = bench.program.text.split("\n")
    inputs = list(bench.inputs)
    return [f"text {len(text)}"] + text + [f"inputs {len(inputs)}"] + inputs + ["deeds"] + deed_lines(bench)
