"""Primitives: functions that are not written in the language.

Most of them are done here; those that call on, or go elsewhere, are only looked at: what they do
is for whoever runs a program.
"""

from keptagain.data import EMPTY, NO, NONE, YES, Cell, Function, Pair, is_list, kind_of, list_of
from keptagain.printing import datum_text

GREATEST = (10 ** 50) ** 20


class Primitive(Function):
    """The worth that a primitive's name has at first."""

    def __init__(self, name):
        self.name = name


class Fault:
    """What comes of a call instead of a worth."""

    def __init__(self, datum):
        self.datum = datum


class World:
    """What a run told, printed; the data that it is told when it asks; and what each of its cells holds.

    Cells alone can change: as what they hold stands here, all other data may be shared by runs that go on apart.
    """

    def __init__(self, inputs):
        self.said = []
        self.inputs = inputs
        self.asked = 0
        self.cells = {}

    def tell(self, datum):
        self.said.append(datum_text(datum))
        return NONE

    def ask(self):
        if self.asked == len(self.inputs):
            return NONE
        self.asked += 1
        return self.inputs[self.asked - 1]

    def made_cell(self, datum):
        cell = Cell()
        self.cells[cell] = datum
        return cell

    def got(self, cell):
        return self.cells[cell]

    def put(self, cell, datum):
        self.cells[cell] = datum
        return NONE


def truth(holds):
    return YES if holds else NO


def within_bounds(number):
    if -GREATEST <= number <= GREATEST:
        return number
    return Fault("great")


def added(left, right):
    return within_bounds(left + right)


def subtracted(left, right):
    return within_bounds(left - right)


def multiplied(left, right):
    return within_bounds(left * right)


def quotient(left, right):
    return Fault("nought") if right == 0 else left // right


def remainder(left, right):
    return Fault("nought") if right == 0 else left % right


def is_less(left, right):
    return truth(left < right)


def is_same(left, right):
    # Pairs, cells, functions and what is kept are equal to themselves alone.
    return truth(left == right)


def negated(datum):
    return truth(datum == NO)


def paired(head, tail):
    return Pair(head, tail)


def head_of(pair):
    return pair.head if isinstance(pair, Pair) else Fault("empty")


def tail_of(pair):
    return pair.tail if isinstance(pair, Pair) else Fault("empty")


def listed(*worths):
    return list_of(worths, EMPTY)


def kind_word(datum):
    return kind_of(datum)


def failed(datum):
    return Fault(datum)


# How many worths each wants at least and at most, and of what kinds the first ones have to be.
WANTED = {
    "add": (2, 2, ("number", "number")),
    "ask": (0, 0, ()),
    "cell": (1, 1, ()),
    "fail": (1, 1, ()),
    "get": (1, 1, ("cell",)),
    "head": (1, 1, ("pair or ()",)),
    "keep": (1, 1, ()),
    "kind": (1, 1, ()),
    "less": (2, 2, ("number", "number")),
    "list": (0, None, ()),
    "mul": (2, 2, ("number", "number")),
    "not": (1, 1, ()),
    "pair": (2, 2, ()),
    "part": (1, 1, ()),
    "prompt": (1, 1, ()),
    "put": (2, 2, ("cell",)),
    "quo": (2, 2, ("number", "number")),
    "rem": (2, 2, ("number", "number")),
    "same": (2, 2, ()),
    "sub": (2, 2, ("number", "number")),
    "tail": (1, 1, ("pair or ()",)),
    "tell": (1, 1, ()),
    "try": (2, 2, ()),
    "use": (2, 2, ("any", "list")),
    "wind": (3, 3, ()),
}
# What comes of those that neither call on nor bear on the run's world.
ACTIONS = {
    "add": added,
    "fail": failed,
    "head": head_of,
    "kind": kind_word,
    "less": is_less,
    "list": listed,
    "mul": multiplied,
    "not": negated,
    "pair": paired,
    "quo": quotient,
    "rem": remainder,
    "same": is_same,
    "sub": subtracted,
    "tail": tail_of,
}


def primitives():
    """(name, least, most) of all primitives: how many worths each has to be handed."""
    return tuple([(name, WANTED[name][0], WANTED[name][1]) for name in sorted(WANTED)])


def refusal(name, worths):
    """The Fault of a call with worths that the primitive does not take; None if it takes them."""
    least, most, kinds = WANTED[name]
    if len(worths) < least or (most is not None and len(worths) > most):
        return Fault("many")
    for worth, wanted in zip(worths, kinds):
        if not is_wanted(worth, wanted):
            return Fault("kind")
    return None


def is_wanted(worth, wanted):
    """Whether worth is what a primitive wants."""
    if wanted == "any":
        return True
    if wanted == "list":
        return is_list(worth)
    if wanted == "pair or ()":
        return isinstance(worth, Pair) or worth == EMPTY
    return kind_of(worth) == wanted


def outcome(name, worths, world):
    """The worth of a call that is not refused, or its Fault; not for primitives that call on."""
    if name == "tell":
        return world.tell(*worths)
    if name == "ask":
        return world.ask()
    if name == "cell":
        return world.made_cell(*worths)
    if name == "get":
        return world.got(*worths)
    if name == "put":
        return world.put(*worths)
    action = ACTIONS[name]
    return action(*worths)
