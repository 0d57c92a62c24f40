"""The patterns of macros: how they have to be made, and what they fit."""

from keptagain.data import EMPTY, Pair, things_of
from keptagain.errors import BadForm
from keptagain.syntax import DOTS, is_name, names_in, open_spelling


class PatternReader:
    """Looks through a pattern; `depths` tells of each of its names how many dots stand round about it."""

    def __init__(self, number, literals):
        self.number = number
        self.literals = literals
        self.depths = {}

    def look_through(self, pattern, depth):
        """Takes the names of what stands behind a macro's name, or of any list further in."""
        things, tail = things_of(pattern)
        dotted = [at for at, thing in enumerate(things) if thing == DOTS]
        if dotted and (len(dotted) > 1 or dotted[0] == 0 or tail != EMPTY):
            raise BadForm(self.number)
        for at, thing in enumerate(things):
            within = depth + 1 if at + 1 in dotted else depth
            if isinstance(thing, Pair):
                self.look_through(thing, within)
            elif thing != DOTS:
                self.take_single(thing, within)
        self.take_single(tail, depth)

    def take_single(self, thing, depth):
        if not is_name(thing) or thing in self.literals:
            return
        if thing == DOTS or thing in self.depths:
            raise BadForm(self.number)
        self.depths[thing] = depth


class Fitting:
    """A pattern held against a use; `found` tells what its names fit.

    What a name with dots fits is a Python list, with as many lists in it as dots stand round about the name.
    """

    def __init__(self, literals, scope):
        self.literals = literals
        self.scope = scope
        self.found = {}

    def fits(self, pattern, datum):
        while isinstance(pattern, Pair):
            if isinstance(pattern.tail, Pair) and pattern.tail.head == DOTS:
                return self.fits_repeated(pattern.head, pattern.tail.tail, datum)
            if not isinstance(datum, Pair) or not self.fits(pattern.head, datum.head):
                return False
            pattern = pattern.tail
            datum = datum.tail
        return self.fits_single(pattern, datum)

    def fits_single(self, pattern, datum):
        if not is_name(pattern):
            return datum == pattern
        if pattern in self.literals:
            return open_spelling(datum, self.scope) == pattern
        self.found[pattern] = datum
        return True

    def fits_repeated(self, repeated, others, datum):
        """Whether a list is as many data that fit repeated as there are, and what fits the list others."""
        things, tail = things_of(datum)
        last, _ = things_of(others)
        many = len(things) - len(last)
        if tail != EMPTY or many < 0 or not self.fits_each(repeated, things[:many]):
            return False
        return all([self.fits(last[at], things[many + at]) for at in range(len(last))])

    def fits_each(self, repeated, things):
        """Whether all things fit repeated; each of its names then stands for what it fits in all of them."""
        if is_name(repeated) and repeated not in self.literals:
            self.found[repeated] = things
            return True
        fittings = [Fitting(self.literals, self.scope) for thing in things]
        for fitting, thing in zip(fittings, things):
            if not fitting.fits(repeated, thing):
                return False
        for name in names_in(repeated):
            if name != DOTS and name not in self.literals:
                self.found[name] = [fitting.found[name] for fitting in fittings]
        return True
