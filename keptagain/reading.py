"""Texts read to data."""

from keptagain.data import EMPTY, list_of
from keptagain.errors import BadText
from keptagain.printing import datum_text
from keptagain.words import DOT, is_integer, is_name, number_of, words_in

MOST_OPEN = 40
# Where the next word stands in the innermost datum that is not whole.
BEHIND_QUOTE = "behind a quote"
IN_LIST = "in a list"
BEHIND_DOT = "behind a dot"
BEHIND_TAIL = "behind the tail"


class Opened:
    """A bracket or a quote whose datum is not whole."""

    def __init__(self, state):
        self.state = state
        self.data = []


class Reader:
    """Takes words one by one; `data` are those that are whole, outside of all others."""

    def __init__(self):
        self.data = []
        self.opened = []

    def where(self):
        """Where the next word stands; None outside of all data."""
        return self.opened[-1].state if self.opened else None

    def take(self, word, place):
        """Goes on by word: BadText if it cannot stand at place."""
        if word == "(":
            self.take_opening(IN_LIST, place)
        elif word == "'":
            self.take_opening(BEHIND_QUOTE, place)
        elif word == DOT:
            self.take_dot(place)
        elif word == ")":
            self.take_closing(place)
        else:
            self.take_single(word, place)

    def take_opening(self, state, place):
        if self.where() == BEHIND_TAIL or len(self.opened) == MOST_OPEN:
            raise BadText(place)
        self.opened.append(Opened(state))

    def take_dot(self, place):
        if self.where() != IN_LIST or not self.opened[-1].data:
            raise BadText(place)
        within = self.opened[-1]
        within.state = BEHIND_DOT

    def take_closing(self, place):
        if self.where() not in (IN_LIST, BEHIND_TAIL):
            raise BadText(place)
        made = self.opened.pop()
        tail = made.data.pop() if made.state == BEHIND_TAIL else EMPTY
        self.put(list_of(made.data, tail))

    def take_single(self, word, place):
        if self.where() == BEHIND_TAIL:
            raise BadText(place)
        if is_integer(word):
            self.put(number_of(word))
        elif is_name(word):
            self.put(word)
        else:
            raise BadText(place)

    def put(self, datum):
        """Puts a whole datum where it stands; with it, the quotes ahead of it are whole."""
        while self.where() == BEHIND_QUOTE:
            self.opened.pop()
            datum = list_of(["quote", datum], EMPTY)
        if not self.opened:
            self.data.append(datum)
            return
        within = self.opened[-1]
        within.data.append(datum)
        if within.state == BEHIND_DOT:
            within.state = BEHIND_TAIL


def data_in(text):
    """All data of text, in sequence."""
    words, end = checked_words(text)
    reader = Reader()
    for word, place in words:
        reader.take(word, place)
    if reader.opened:
        raise BadText(end)
    return reader.data


def datum_in(text):
    """The one datum of text."""
    words, end = checked_words(text)
    reader = Reader()
    for word, place in words:
        if reader.data:
            raise BadText(place)
        reader.take(word, place)
    if not reader.data:
        raise BadText(end)
    return reader.data[0]


def checked_words(text):
    """The words of text and the place of its end, if it is a string."""
    if not isinstance(text, str):
        raise BadText((0, 0))
    return words_in(text)


def read(text):
    """The tuple of the data of text, each printed."""
    return tuple([datum_text(datum) for datum in data_in(text)])


def printed(text):
    """The one datum of text, printed."""
    return datum_text(datum_in(text))
