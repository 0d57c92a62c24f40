"""How data are held.

An integer is an int. Symbols, yes, no, none and the empty list are strings,
just what is printed of them: no symbol is spelled like one of the others.
All other lists are made of pairs.
"""

EMPTY = "()"


class Pair:
    """A head and a tail; it never changes, and is equal to itself alone."""

    def __init__(self, head, tail):
        self.head = head
        self.tail = tail


def list_of(things, tail):
    """The data of the list things, one behind the other, and tail behind the last one."""
    datum = tail
    for thing in reversed(things):
        datum = Pair(thing, datum)
    return datum
