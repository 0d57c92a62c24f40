"""The errors of the package: each keeps what it is about as `value`."""


class KeptError(ValueError):
    """What all errors of the package are."""

    def __init__(self, value):
        self.value = value


class BadMost(KeptError):
    """No number of turns."""


class BadText(KeptError):
    """A text that cannot be read; the value is the place, (line, column)."""


class BadForm(KeptError):
    """A form that macros cannot spell out."""


class TooLong(KeptError):
    """Macros make too much of a text."""


class BadCore(KeptError):
    """A core form with a wrong number of parts."""


class BadInputs(KeptError):
    """No tuple of texts of one datum each."""


class NoProgram(KeptError):
    """A value that is no Program."""


class NoMachine(KeptError):
    """A value that is no Machine."""


class NotOn(KeptError):
    """A machine that has an ending does not go on."""


class BadNumber(KeptError):
    """A number out of its range, or none at all."""


class BadPace(KeptError):
    """No number of rows from one collecting to the next."""


class BadImage(KeptError):
    """A text that is no machine's image."""


class NoPart(KeptError):
    """No name of a part of the library."""


class NothingToUndo(KeptError):
    """No deed stands that could be taken back."""


class NothingToRedo(KeptError):
    """No deed was taken back that could be done again."""


class NoBlock(KeptError):
    """There is no trial to be kept."""


class BadJournal(KeptError):
    """A text that is no bench's journal."""


class BadTask(KeptError):
    """A line that a desk does not know."""
