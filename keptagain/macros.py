"""Macros: what comes of a text when all of them are spelled out."""

from keptagain.data import Pair
from keptagain.expanding import Expander, macro_of
from keptagain.prelude import PRELUDE
from keptagain.printing import full_text
from keptagain.reading import data_in


def core_forms(text):
    """The core forms of text, each behind the number of the form of which it came."""
    forms = data_in(text)
    expander = Expander(prelude_macros(text, forms))
    found = []
    for number, form in enumerate(forms, start=1):
        if begins_with(form, ("macro",)):
            expander.learn(form, number)
        else:
            found.append((number, expander.core_of(form, number)))
    return found


def begins_with(form, words):
    """Whether form is a list with one of words at its begin."""
    return isinstance(form, Pair) and form.head in words


def prelude_macros(text, forms):
    """The prelude's macros, by their names, but for those that forms, the data of text, make anew.

    Those whose names do not stand in text are left out: they cannot be used in it, as none of the others writes a use
    of another one.
    """
    anew = [form.tail.head for form in forms
            if begins_with(form, ("macro", "def")) and isinstance(form.tail, Pair)]
    macros = {}
    for line in PRELUDE.split("\n"):
        name = line.split(" ")[1]
        if name in text and name not in anew:
            macros[name] = macro_of(data_in(line)[0], 0)
    return macros


def expanded(text):
    """The core forms of text, each printed in full."""
    return tuple([full_text(core) for number, core in core_forms(text)])
