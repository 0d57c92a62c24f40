"""Forms gone through from the outside in, from left to right, until no macro is left in them."""

from keptagain.data import EMPTY, Pair, list_of, things_of
from keptagain.errors import BadForm, TooLong
from keptagain.patterns import Fitting, PatternReader
from keptagain.syntax import (CORE_WORDS, DOTS, Scope, are_unlike_names, as_written, bound_as, is_name,
                              open_spelling, spelled)
from keptagain.templates import MOST_DATA, TemplateReader, Writing

MOST_USES = 2000
MOST_WITHIN = 60


class Rule:
    """A pattern, without the macro's name ahead, and the template of what fits it."""

    def __init__(self, pattern, template):
        self.pattern = pattern
        self.template = template


class Macro:
    """Literals, and rules that are tried one behind the other."""

    def __init__(self, literals, rules):
        self.literals = literals
        self.rules = rules


def macro_of(form, number):
    """The macro that a macro form makes; BadForm(number) if it is not made as such a form has to be."""
    things, tail = things_of(form)
    if tail != EMPTY or len(things) < 4 or not is_name(things[1]):
        raise BadForm(number)
    literals, end = things_of(things[2])
    if end != EMPTY or not are_unlike_names(literals) or DOTS in literals:
        raise BadForm(number)
    return Macro(literals, [rule_of(thing, things[1], literals, number) for thing in things[3:]])


def rule_of(datum, name, literals, number):
    """The rule of (PATTERN TEMPLATE), of the macro called name."""
    parts, tail = things_of(datum)
    if tail != EMPTY or len(parts) != 2:
        raise BadForm(number)
    pattern, template = parts
    if not isinstance(pattern, Pair) or pattern.head != name:
        raise BadForm(number)
    patterns = PatternReader(number, literals)
    patterns.look_through(pattern.tail, 0)
    return Rule(pattern.tail, TemplateReader(number, patterns.depths).read_part(template, 0))


class Expander:
    """Goes through the forms of one text; `macros` are those that there are so far, by their names."""

    def __init__(self, macros):
        self.macros = macros
        self.made = {}
        self.bound = 0
        self.number = 0
        self.uses = 0
        self.size = 0

    def learn(self, form, number):
        """Takes a macro form of the text."""
        macro = macro_of(form, number)
        name = form.tail.head
        if name in CORE_WORDS or name == DOTS or name in self.made:
            raise BadForm(number)
        self.macros[name] = macro
        self.made[name] = True

    def core_of(self, form, number):
        """The core form of a form that is no macro form."""
        self.number = number
        self.uses = 0
        self.size = 0
        return self.expression(as_written(form), None, 0, True)

    def grow(self, many):
        """Counts so many more data of what comes out."""
        self.size += many
        if self.size > MOST_DATA:
            raise TooLong(self.number)

    def open_list(self, depth):
        """Counts a list that comes out, with so many lists open, itself among them."""
        if depth > MOST_WITHIN:
            raise TooLong(self.number)
        self.grow(1)

    def expression(self, datum, scope, depth, at_top):
        """What comes of datum, with depth lists open round about it; scope is the innermost one."""
        datum = self.used_up(datum, scope)
        if not isinstance(datum, Pair):
            return self.single(datum, scope)
        things, tail = things_of(datum)
        if tail != EMPTY:
            raise BadForm(self.number)
        self.open_list(depth + 1)
        word = open_spelling(things[0], scope)
        if word not in CORE_WORDS:
            return list_of(self.expressions(things, scope, depth + 1), EMPTY)
        self.grow(1)
        return Pair(word, list_of(self.behind_word(word, things[1:], scope, depth + 1, at_top), EMPTY))

    def expressions(self, things, scope, depth):
        return [self.expression(thing, scope, depth, False) for thing in things]

    def single(self, datum, scope):
        """What comes of an expression that is no list."""
        if datum == EMPTY:
            raise BadForm(self.number)
        name = self.core_name(datum, scope) if is_name(datum) else datum
        self.grow(1)
        return name

    def core_name(self, name, scope):
        """What name, which stands for a worth, is called in core forms."""
        called = bound_as(name, scope)
        if called is not None:
            return called
        if spelled(name) in CORE_WORDS or spelled(name) in self.macros:
            raise BadForm(self.number)
        return spelled(name)

    def used_up(self, datum, scope):
        """What uses of macros make of datum, until it is none."""
        while isinstance(datum, Pair):
            word = open_spelling(datum.head, scope)
            if word not in self.macros:
                return datum
            datum = self.written_by(self.macros[word], datum, scope)
        return datum

    def written_by(self, macro, use, scope):
        """What macro writes for a use of it."""
        self.uses += 1
        if self.uses > MOST_USES:
            raise TooLong(self.number)
        for rule in macro.rules:
            fitting = Fitting(macro.literals, scope)
            if fitting.fits(rule.pattern, use.tail):
                return Writing(self.number).written(rule.template, fitting.found)
        raise BadForm(self.number)

    def behind_word(self, word, things, scope, depth, at_top):
        """What comes of the things behind a core word."""
        if word == "quote":
            return [self.quoted(thing, depth) for thing in things]
        if word == "fn":
            return self.function(things, scope, depth)
        if word == "set":
            return self.naming(things, scope, depth)
        if word == "def":
            return self.definition(things, scope, depth, at_top)
        if word == "macro":
            raise BadForm(self.number)
        return self.expressions(things, scope, depth)

    def quoted(self, datum, depth):
        """A copy of what is quoted: each pair is another one at each place where it stands."""
        if not isinstance(datum, Pair):
            self.grow(1)
            return spelled(datum)
        self.open_list(depth + 1)
        things, tail = things_of(datum)
        copies = [self.quoted(thing, depth + 1) for thing in things]
        if tail != EMPTY:
            self.grow(1)
        return list_of(copies, spelled(tail))

    def naming(self, things, scope, depth):
        """What comes of a name and the expressions behind it."""
        if not things or not is_name(things[0]):
            raise BadForm(self.number)
        return [self.single(things[0], scope)] + self.expressions(things[1:], scope, depth)

    def definition(self, things, scope, depth, at_top):
        if not at_top:
            raise BadForm(self.number)
        parts = self.naming(things, scope, depth)
        self.made[parts[0]] = True
        return parts

    def function(self, things, scope, depth):
        if not things:
            raise BadForm(self.number)
        parameters = things[0]
        if is_name(parameters):
            names = self.bind([parameters])
            self.grow(1)
            called = names[parameters]
        else:
            listed, tail = things_of(parameters)
            if tail != EMPTY or not are_unlike_names(listed):
                raise BadForm(self.number)
            names = self.bind(listed)
            called = self.parameter_list(listed, names, depth)
        return [called] + self.expressions(things[1:], Scope(names, scope), depth)

    def bind(self, parameters):
        """What the names that an fn binds are called."""
        names = {}
        for parameter in parameters:
            self.bound += 1
            names[parameter] = f"~{self.bound}"
        return names

    def parameter_list(self, parameters, names, depth):
        if not parameters:
            self.grow(1)
            return EMPTY
        self.open_list(depth + 1)
        self.grow(len(parameters))
        return list_of([names[parameter] for parameter in parameters], EMPTY)
