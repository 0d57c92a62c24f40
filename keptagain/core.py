"""Programs: core forms whose parts are as many as they have to be."""

from keptagain.checks import is_integer_within
from keptagain.data import Pair, things_of
from keptagain.errors import BadCore, BadNumber, NoProgram
from keptagain.macros import core_forms
from keptagain.printing import full_text
from keptagain.syntax import is_name

# How many things there are behind each core word, at least and at most.
COUNTS = {
    "quote": (1, 1),
    "fn": (2, None),
    "if": (3, 3),
    "set": (2, 2),
    "do": (1, None),
    "def": (2, 2),
}
# How many of the things behind these core words are no expressions.
NO_EXPRESSIONS = {"fn": 1, "if": 0, "set": 1, "do": 0, "def": 1}


class Program:
    """A text whose core forms can be run; `cores` are the data of `forms`."""

    def __init__(self, text):
        found = core_forms(text)
        for number, core in found:
            word = wrong_word(core)
            if word is not None:
                raise BadCore((number, word))
        self.text = text
        self.cores = tuple([core for number, core in found])
        self.forms = tuple([full_text(core) for core in self.cores])
        self.names = tuple(sorted({core.tail.head for core in self.cores if word_of(core) == "def"}))

    def __eq__(self, other):
        return isinstance(other, Program) and self.text == other.text


def word_of(expression):
    """The core word with which expression begins; None if it is a call, or no list."""
    if isinstance(expression, Pair) and expression.head in COUNTS:
        return expression.head
    return None


def parts_of(expression):
    """The expressions that stand in expression, but in none of these, from left to right."""
    things, _ = things_of(expression)
    word = word_of(expression)
    if word == "quote":
        return []
    if word is None:
        return things
    return things[1 + NO_EXPRESSIONS[word]:]


def expressions_in(core):
    """Core and all expressions in it, in the sequence in which they begin."""
    found = []
    waiting = [core]
    while waiting:
        expression = waiting.pop()
        found.append(expression)
        waiting.extend(parts_of(expression)[::-1])
    return found


def wrong_word(core):
    """The core word of the first thing in core that has another number of parts than it must; None without."""
    for expression in expressions_in(core):
        word = word_of(expression)
        if word is not None:
            least, most = COUNTS[word]
            things, _ = things_of(expression)
            if len(things) - 1 < least or (most is not None and len(things) - 1 > most):
                return word
    return None


def is_global(expression):
    """Whether expression is the name of a global; those that an fn binds begin with a sign that no text has."""
    return is_name(expression) and not expression.startswith("~")


def need_program(program):
    """NoProgram, unless program is one."""
    if not isinstance(program, Program):
        raise NoProgram(program)


def globals_in(program, number):
    """The globals that stand as expressions, or are set, in a form of program, told by its place from 1 on."""
    need_program(program)
    if not is_integer_within(number, 1, len(program.cores)):
        raise BadNumber(number)
    found = expressions_in(program.cores[number - 1])
    named = found + [expression.tail.head for expression in found if word_of(expression) == "set"]
    return tuple(sorted({name for name in named if is_global(name)}))
