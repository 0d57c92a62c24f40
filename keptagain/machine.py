"""The machine, which does a program's rows."""

from keptagain.bodies import code_of
from keptagain.checks import input_data, is_integer_within, need_most
from keptagain.core import Program, need_program
from keptagain.errors import BadNumber, NoMachine, NotOn
from keptagain.pieces import CALL, FORMS, newest_frame
from keptagain.printing import datum_text
from keptagain.running import do_row, goes_on
from keptagain.state import State, waiting_in


class Machine:
    """A run of a program's rows; how it stands is its `state`."""

    def __init__(self, program, inputs):
        need_program(program)
        data = input_data(inputs)
        self.state = State(program, code_of(program), data)

    @property
    def program(self):
        return self.state.source

    @property
    def told(self):
        return tuple(self.state.world.said)

    @property
    def turns(self):
        return self.state.turns_begun

    @property
    def rows(self):
        return self.state.rows_done

    @property
    def ending(self):
        return self.state.how_ended

    @property
    def depth(self):
        return waiting_in(self.state)

    @property
    def live(self):
        return len(self.state.live_frames)

    @property
    def pieces(self):
        return counts_in(self.state.chain)

    @property
    def things(self):
        return self.state.thing_count

    def step(self):
        """Does one row of the run, and returns what it was."""
        need_on(self.state)
        return do_row(self.state)

    def run(self, most):
        """Does rows until a TURN would begin behind most of them, or there is an ending; returns how many began."""
        need_most(most)
        before = self.state.turns_begun
        while goes_on(self.state, before + most):
            do_row(self.state)
        return self.state.turns_begun - before

    def frame(self, number):
        """What the frame of this number is: 0 is the running one, 1 the newest one that waits."""
        if not is_integer_within(number, 0, self.depth):
            raise BadNumber(number)
        if number == 0:
            return running_told(self.state)
        return waiting_told(waiting_frame(self.state, number))


def need_on(state):
    """NotOn, if there is an ending."""
    if state.how_ended is not None:
        raise NotOn(state.how_ended)


def need_machine(machine):
    """NoMachine, unless machine is one."""
    if not isinstance(machine, Machine):
        raise NoMachine(machine)


def machine_of(state):
    """The Machine that stands as state tells."""
    # That of a program without forms is made in no time.
    machine = Machine(Program(""), ())
    machine.state = state
    return machine


def counts_in(chain):
    """How many frames count in each piece of chain, the newest one first."""
    counts = []
    while chain is not None:
        piece, count = chain
        counts.append(count)
        chain = piece.below
    return tuple(counts)


def waiting_frame(state, number):
    """The frame of this number among those that wait, from 1 on, the newest one first."""
    if number <= len(state.live_frames):
        return state.live_frames[-number]
    left = number - len(state.live_frames)
    piece, count = state.chain
    while left > count:
        left -= count
        piece, count = piece.below
    return newest_frame((piece, count + 1 - left))


def running_told(state):
    frame = state.running
    if frame is None:
        return None
    return call_told(frame.body, frame.row, frame.taken, frame.own, frame.pile)


def waiting_told(frame):
    if frame.word == CALL:
        return call_told(*frame.parts)
    if frame.word == FORMS:
        return (FORMS, *frame.parts)
    return (frame.word,)


def call_told(body, row, taken, own, pile):
    return (CALL, body, row, texts_of(taken), texts_of(own), texts_of(pile))


def texts_of(worths):
    return tuple([datum_text(worth) for worth in worths])
