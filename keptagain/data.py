"""How data are held.

An integer is an int. Symbols, yes, no, none and the empty list are strings,
just what is printed of them: no symbol is spelled like one of the others.
All other lists are made of pairs. Cells, functions and what is kept are made
by runs alone.
"""

EMPTY = "()"
YES = "yes"
NO = "no"
NONE = "none"
# What the strings are that are no symbols.
STRING_KINDS = {"()": "empty", "yes": "truth", "no": "truth", "none": "none"}


class Pair:
    """A head and a tail; it never changes, and is equal to itself alone."""

    def __init__(self, head, tail):
        self.head = head
        self.tail = tail


class Cell:
    """Holds a datum, which can be changed; which one, the run knows that made it (see primitives.py)."""


class Function:
    """What all functions are, whoever wrote them."""


def list_of(things, tail):
    """The data of the list things, one behind the other, and tail behind the last one."""
    datum = tail
    for thing in reversed(things):
        datum = Pair(thing, datum)
    return datum


def things_of(datum):
    """The things of a list, one behind the other, and what its last tail is."""
    things = []
    while isinstance(datum, Pair):
        things.append(datum.head)
        datum = datum.tail
    return things, datum


def pairs_in(datum):
    """All pairs in datum, each ahead of those in its head, and these ahead of those in its tail."""
    found = []
    waiting = [datum]
    while waiting:
        thing = waiting.pop()
        if isinstance(thing, Pair):
            found.append(thing)
            waiting.append(thing.tail)
            waiting.append(thing.head)
    return found


def is_list(datum):
    """Whether datum is a list to its end."""
    while isinstance(datum, Pair):
        datum = datum.tail
    return datum == EMPTY


def kind_of(datum):
    """The kind of datum; what is none of the others was kept of what is left to do."""
    if isinstance(datum, int):
        return "number"
    if isinstance(datum, str):
        return STRING_KINDS.get(datum, "symbol")
    if isinstance(datum, Pair):
        return "pair"
    if isinstance(datum, Cell):
        return "cell"
    if isinstance(datum, Function):
        return "fn"
    return "rest"
