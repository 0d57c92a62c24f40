"""Texts that are read line by line, each line word by word; words are parted by one blank."""

from keptagain.checks import MOST_INPUTS
from keptagain.core import Program
from keptagain.errors import BadCore, BadForm, BadText, TooLong
from keptagain.printing import full_text
from keptagain.reading import datum_in
from keptagain.words import is_integer, number_of


class BadLine(ValueError):
    """A line that cannot stand, or lacks; caught by whoever reads."""

    def __init__(self, number):
        self.number = number


class LineReader:
    """Takes lines, and the words of the line that was taken last; `at` is its number, from 1.

    BadLine tells at which line it does not go on: behind the last one, if lines are missing.
    """

    def __init__(self, text):
        self.lines = text.split("\n")
        self.at = 0
        self.words = []
        self.column = 0

    def need(self, holds):
        """BadLine, of the present line, unless this holds."""
        if not holds:
            raise BadLine(self.at)

    def is_over(self):
        return self.at == len(self.lines)

    def take_line(self):
        """The next line."""
        self.at += 1
        if self.at > len(self.lines):
            raise BadLine(self.at)
        return self.lines[self.at - 1]

    def open_line(self):
        """Takes the next line, and returns its first word."""
        self.words = self.take_line().split(" ")
        self.column = 0
        return self.take_word()

    def is_line_over(self):
        return self.column == len(self.words)

    def close_line(self):
        """Nothing more stands in the line."""
        self.need(self.is_line_over())

    def take_word(self):
        """The next word of the line."""
        self.need(not self.is_line_over())
        self.column += 1
        return self.words[self.column - 1]

    def next_word(self):
        """The next word of the line, which is not over; it is not taken."""
        return self.words[self.column]

    def take_number(self):
        """The number, from 0 on, that the next word is."""
        word = self.take_word()
        self.need(is_number(word))
        return number_of(word)

    def lone_word(self, word):
        """Takes a line of just this word."""
        self.need(self.open_line() == word)
        self.close_line()

    def counted(self, word):
        """The number in a line of this word and a number."""
        self.need(self.open_line() == word)
        number = self.take_number()
        self.close_line()
        return number

    def read_program(self):
        """The Program of a line `text M` and the M lines behind it; that line cannot stand if there is none."""
        many = self.counted("text")
        self.need(many > 0)
        told = self.at
        text = "\n".join(self.lines_counted(many))
        try:
            return Program(text)
        except (BadText, BadForm, TooLong, BadCore):
            raise BadLine(told) from None

    def read_inputs(self):
        """The data of a line `inputs K` and the K lines behind it."""
        many = self.counted("inputs")
        self.need(many <= MOST_INPUTS)
        return [self.read_datum() for lap in range(many)]

    def read_datum(self):
        """The datum that the next line is, printed."""
        line = self.take_line()
        try:
            datum = datum_in(line)
        except BadText:
            raise BadLine(self.at) from None
        self.need(full_text(datum) == line)
        return datum

    def lines_counted(self, many):
        """So many lines, just as they are."""
        found = []
        while len(found) < many:
            found.append(self.take_line())
        return found


def is_number(word):
    """Whether word is an integer from 0 on, as Python writes it."""
    return is_integer(word) and not word.startswith("-")
