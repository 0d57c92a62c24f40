"""Data printed. Nothing here recurs: data may be nested, and lists may go on, without end."""

from keptagain.data import EMPTY, Pair, kind_of
from keptagain.words import CHUNK, CHUNK_SCALE

MOST_SIGNS = 2000
LONG = "#long"
# Python itself surely writes integers of so many bits: it never refuses fewer than 640 figures.
WRITTEN_BITS = 2000


def datum_text(datum):
    """What is printed of datum."""
    text = text_within(datum, MOST_SIGNS)
    return LONG if text is None else text


def full_text(datum):
    """What is printed of datum, however long."""
    return text_within(datum, None)


def text_within(datum, most):
    """Datum written out; None if this has more than most signs (None: as many as there are)."""
    texts = []
    signs = 0
    tails = []
    thing = datum
    while thing is not None:
        if isinstance(thing, Pair):
            text = "("
            tails.append(thing.tail)
            thing = thing.head
        else:
            single = single_text(thing, most)
            if single is None:
                return None
            behind, thing = text_behind(tails)
            text = single + behind
        signs += len(text)
        if most is not None and signs > most:
            return None
        texts.append(text)
    return "".join(texts)


def text_behind(tails):
    """What stands behind a datum, up to the next one, and that next one, None at the end.

    tails are the tails of all lists that are open, the innermost one last.
    """
    text = ""
    while tails:
        tail = tails[-1]
        if isinstance(tail, Pair):
            tails[-1] = tail.tail
            return text + " ", tail.head
        if tail != EMPTY:
            tails[-1] = EMPTY
            return text + " . ", tail
        tails.pop()
        text += ")"
    return text, None


def single_text(thing, most):
    """The text of what is no pair; None if it is an integer that surely has more than most figures."""
    if isinstance(thing, str):
        return thing
    if not isinstance(thing, int):
        return "#" + kind_of(thing)
    # Each figure is less than 4 bits.
    if most is not None and thing.bit_length() > 4 * most:
        return None
    return number_text(thing)


def number_text(number):
    """An integer as Python writes it, also one that is too long for Python itself."""
    if number.bit_length() <= WRITTEN_BITS:
        return str(number)
    figures = "".join([str(part).zfill(CHUNK) for part in chunks_of(abs(number))]).lstrip("0")
    return "-" + figures if number < 0 else figures


def chunks_of(number):
    """The figures of number, CHUNK of them in each part, the highest ones first."""
    scales = [CHUNK_SCALE]
    while scales[-1] * scales[-1] <= number:
        scales.append(scales[-1] * scales[-1])
    parts = [number]
    for scale in reversed(scales):
        parts = [half for part in parts for half in divmod(part, scale)]
    return parts
