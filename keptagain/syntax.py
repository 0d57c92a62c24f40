"""What macros work on: data with names that uses of macros brought in, and where names are bound."""

from keptagain.data import EMPTY, NONE, NO, YES, Pair, things_of

DOTS = "..."
CORE_WORDS = ("quote", "fn", "if", "set", "do", "def", "macro")


class Name:
    """A name that one use of a macro brought in; it is the same as itself alone."""

    def __init__(self, spelling):
        self.spelling = spelling


class Written(Pair):
    """A pair that knows how many data are printed of the list that begins with it."""

    def __init__(self, head, tail, size):
        self.head = head
        self.tail = tail
        self.size = size


class Scope:
    """What one fn binds, each name with what it is called in core forms, and the scope round about it."""

    def __init__(self, names, outer):
        self.names = names
        self.outer = outer


def size_of(datum):
    """How many data are printed of datum, each list counted as one more than its things."""
    return datum.size if isinstance(datum, Written) else 1


def size_behind(tail):
    """How many data tail adds to the list that it ends."""
    if isinstance(tail, Written):
        return tail.size - 1
    return 0 if tail == EMPTY else 1


def written_list(things, tail):
    """The list of things, and tail behind the last one."""
    datum = tail
    size = 1 + size_behind(tail)
    for thing in reversed(things):
        size += size_of(thing)
        datum = Written(thing, datum, size)
    return datum


def as_written(datum):
    """Datum, read from a text, of pairs that know their sizes."""
    if not isinstance(datum, Pair):
        return datum
    things, tail = things_of(datum)
    return written_list([as_written(thing) for thing in things], tail)


def is_name(datum):
    """Whether datum is a name, the text's or a use's."""
    if isinstance(datum, Name):
        return True
    return isinstance(datum, str) and datum not in (YES, NO, NONE, EMPTY)


def names_in(datum):
    """All names in datum, from left to right, as often as they stand there."""
    things, tail = things_of(datum)
    names = [name for thing in things for name in names_in(thing)]
    if is_name(tail):
        names.append(tail)
    return names


def are_unlike_names(things):
    """Whether all things are names, no two of them the same."""
    return all([is_name(thing) for thing in things]) and len({thing: True for thing in things}) == len(things)


def spelled(datum):
    """What a name is spelled like; all else, pairs aside, is itself."""
    return datum.spelling if isinstance(datum, Name) else datum


def bound_as(name, scope):
    """What name is called in core forms where scope is the innermost one; None if it is not bound."""
    while scope is not None:
        if name in scope.names:
            return scope.names[name]
        scope = scope.outer
    return None


def open_spelling(datum, scope):
    """What datum is spelled like if it is a name that is not bound; otherwise None."""
    if not is_name(datum) or bound_as(datum, scope) is not None:
        return None
    return spelled(datum)
