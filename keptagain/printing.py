"""Data printed. Nothing here recurs: data may be nested, and lists may go on, without end."""

from keptagain.data import EMPTY, Pair, kind_of
from keptagain.words import CHUNK, CHUNK_SCALE

MOST_SIGNS = 2000
LONG = "#long"
# Python itself surely writes integers of so many bits: it never refuses fewer than 640 figures.
WRITTEN_BITS = 2000


def datum_text(datum):
    """What is printed of datum."""
    text = text_within(datum, MOST_SIGNS)
    return LONG if text is None else text


def full_text(datum):
    """What is printed of datum, however long."""
    return text_within(datum, None)


def text_within(datum, most):
    """Datum written out; None if this has more than most signs (None: as many as there are)."""
    texts = []
    signs = 0
    tails = []
    thing = datum
    while thing is not None:
        if isinstance(thing, Pair):
            text = "("
            tails.append(thing.tail)
            thing = thing.head
        elif isinstance(thing, int) and is_too_great(thing, most):
            return None
        else:
            behind, following = text_behind(tails)
            text = single_text(thing) + behind
            thing = following
        signs += len(text)
        if most is not None and signs > most:
            return None
        texts.append(text)
    return "".join(texts)


def text_behind(tails):
    """What stands behind a datum, up to the next one, and that next one, None at the end.

    tails are the tails of all lists that are open, the innermost one last.
    """
    text = ""
    while tails:
        tail = tails.pop()
        if isinstance(tail, Pair):
            tails.append(tail.tail)
            return text + " ", tail.head
        if tail != EMPTY:
            tails.append(EMPTY)
            return text + " . ", tail
        text += ")"
    return text, None


def single_text(thing):
    """The text of what is no pair."""
    if isinstance(thing, str):
        return thing
    if isinstance(thing, int):
        return number_text(thing)
    return "#" + kind_of(thing)


def is_too_great(number, most):
    """Whether an integer surely has more than most figures, each being less than 4 bits."""
    return most is not None and number.bit_length() > 4 * most


def number_text(number):
    """An integer as Python writes it, also one that is too long for Python itself."""
    if number.bit_length() <= WRITTEN_BITS:
        return str(number)
    figures = "".join([str(part).zfill(CHUNK) for part in chunks_of(abs(number))]).lstrip("0")
    return "-" + figures if number < 0 else figures


def chunks_of(number):
    """The figures of number, CHUNK of them in each part, the highest ones first."""
    scales = [CHUNK_SCALE]
    while scales[-1] * scales[-1] <= number:
        scales.append(scales[-1] * scales[-1])
    parts = [number]
    for scale in reversed(scales):
        parts = [half for part in parts for half in divmod(part, scale)]
    return parts
