"""A desk: lines that are said to a bench, and its answers."""

from keptagain.errors import BadTask
from keptagain.journals import deed_done, read_journal
from keptagain.words import is_integer, number_of


class Desk:
    """The bench of a journal, at which lines are done."""

    def __init__(self, text):
        self.bench = read_journal(text)

    def say(self, line):
        """Does what line says, and returns the answer."""
        if not isinstance(line, str):
            raise BadTask(line)
        if line in ANSWERS:
            action = ANSWERS[line]
            return action(self.bench)
        word, _, number = line.partition(" ")
        if word not in ("rows", "goes") or not is_integer(number):
            raise BadTask(line)
        return str(deed_done(self.bench, word, number_of(number)))


def collected(bench):
    return str(bench.collect())


def taken_back(bench):
    bench.undo()
    return "done"


def done_again(bench):
    bench.redo()
    return "done"


def told_by(bench):
    """All that was told."""
    return " ; ".join(bench.told) if bench.told else "none"


def ending_of(bench):
    return "on" if bench.ending is None else " ".join(bench.ending)


def turns_of(bench):
    return str(bench.turns)


def depth_of(bench):
    return str(len(bench))


ANSWERS = {
    "collect": collected,
    "undo": taken_back,
    "redo": done_again,
    "told": told_by,
    "ending": ending_of,
    "turns": turns_of,
    "depth": depth_of,
}
