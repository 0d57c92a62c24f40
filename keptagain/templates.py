"""The templates of macros: how they have to be made, and what they write.

A template that was read is made of Rows, Holes and Ours; integers, yes, no, none and () stand as they are.
"""

from keptagain.data import Pair, things_of
from keptagain.errors import BadForm, TooLong
from keptagain.syntax import DOTS, Name, is_name, names_in, size_behind, size_of, written_list

MOST_DATA = 20000


class Row:
    """A list: its parts, some of them Repeats, and its tail."""

    def __init__(self, parts, tail):
        self.parts = parts
        self.tail = tail


class Repeat:
    """A part of a Row with dots; names are those of the pattern that go from thing to thing here."""

    def __init__(self, part, names):
        self.part = part
        self.names = names


class Hole:
    """A name of the pattern, which stands for what it fits."""

    def __init__(self, name):
        self.name = name


class Ours:
    """A name that each use brings in anew."""

    def __init__(self, spelling):
        self.spelling = spelling


class TemplateReader:
    """Reads a template; depths tells how many dots each name of the pattern has there."""

    def __init__(self, number, depths):
        self.number = number
        self.depths = depths

    def read_part(self, datum, depth):
        """What stands for datum, with so many dots round about it."""
        if isinstance(datum, Pair):
            return self.read_row(datum, depth)
        return self.read_single(datum, depth)

    def read_single(self, datum, depth):
        if datum == DOTS:
            raise BadForm(self.number)
        if not is_name(datum):
            return datum
        if datum not in self.depths:
            return Ours(datum)
        if self.depths[datum] > depth:
            raise BadForm(self.number)
        return Hole(datum)

    def read_row(self, datum, depth):
        things, tail = things_of(datum)
        parts = []
        for at, thing in enumerate(things):
            if at + 1 < len(things) and things[at + 1] == DOTS:
                parts.append(self.read_repeat(thing, depth + 1))
            elif thing != DOTS or at == 0:
                parts.append(self.read_part(thing, depth))
        return Row(parts, self.read_single(tail, depth))

    def read_repeat(self, datum, depth):
        """As read_part, of what has dots behind it; these are counted in depth."""
        part = self.read_part(datum, depth)
        names = [name for name in names_in(datum) if self.depths.get(name, 0) >= depth]
        if not names:
            raise BadForm(self.number)
        return Repeat(part, names)


class Writing:
    """What one use writes: the names that it brings in, and how many data it has written so far."""

    def __init__(self, number):
        self.number = number
        self.names = {}
        self.size = 0

    def grow(self, many):
        self.size += many
        if self.size > MOST_DATA:
            raise TooLong(self.number)

    def written(self, part, found):
        """The datum that part writes, where found tells what the pattern's names fit."""
        if isinstance(part, Row):
            return self.written_row(part, found)
        datum = self.single(part, found)
        self.grow(size_of(datum))
        return datum

    def single(self, part, found):
        """The datum of what is no Row; it is not counted yet, as it may be a tail."""
        if isinstance(part, Hole):
            return found[part.name]
        if isinstance(part, Ours):
            if part.spelling not in self.names:
                self.names[part.spelling] = Name(part.spelling)
            return self.names[part.spelling]
        return part

    def written_row(self, row, found):
        things = []
        for part in row.parts:
            if isinstance(part, Repeat):
                things.extend(self.repeated(part, found))
            else:
                things.append(self.written(part, found))
        tail = self.single(row.tail, found)
        if not things:
            self.grow(size_of(tail))
            return tail
        self.grow(1 + size_behind(tail))
        return written_list(things, tail)

    def repeated(self, repeat, found):
        """What part writes for one thing after the other."""
        if isinstance(repeat.part, Hole):
            return self.as_they_are(found[repeat.part.name])
        many = len(found[repeat.names[0]])
        if [name for name in repeat.names if len(found[name]) != many]:
            raise BadForm(self.number)
        things = []
        for at in range(many):
            within = dict(found)
            for name in repeat.names:
                within[name] = found[name][at]
            things.append(self.written(repeat.part, within))
        return things

    def as_they_are(self, things):
        """Things as they are, counted."""
        self.grow(sum([size_of(thing) for thing in things]))
        return things
