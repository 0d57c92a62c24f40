"""Data printed. Nothing here recurs: data may be nested, and lists may go on, without end."""

from keptagain.data import EMPTY, Pair

MOST_SIGNS = 2000
LONG = "#long"


class Unwritten:
    """What stands in a list behind a datum that was written."""

    def __init__(self, tail):
        self.tail = tail


def datum_text(datum):
    """What is printed of datum."""
    texts = []
    room = MOST_SIGNS
    waiting = [datum]
    while waiting:
        thing = waiting.pop()
        if is_too_great(thing):
            return LONG
        text = next_text(thing, waiting)
        room -= len(text)
        if room < 0:
            return LONG
        texts.append(text)
    return "".join(texts)


def is_too_great(thing):
    """Whether thing is an integer that surely has too many figures, each being less than 4 bits.

    Python itself refuses to write more than 4300 figures, so it is not asked.
    """
    return isinstance(thing, int) and thing.bit_length() > 4 * MOST_SIGNS


def next_text(thing, waiting):
    """The text with which thing begins; whatever follows it is put on waiting, the next one last."""
    if isinstance(thing, Pair):
        put_list(thing, waiting)
        return "("
    if isinstance(thing, Unwritten):
        return tail_text(thing.tail, waiting)
    return str(thing)


def tail_text(tail, waiting):
    """As next_text, of a list of which only tail is left."""
    if isinstance(tail, Pair):
        put_list(tail, waiting)
        return " "
    if tail == EMPTY:
        return ")"
    waiting.extend([")", tail])
    return " . "


def put_list(pair, waiting):
    """Lets a list wait, of which the sign ahead of its head is written."""
    waiting.extend([Unwritten(pair.tail), pair.head])
