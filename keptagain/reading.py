"""Texts read to data."""

from keptagain.data import EMPTY, list_of
from keptagain.errors import BadText
from keptagain.printing import datum_text
from keptagain.words import DOT, bare_words, is_integer, is_name, number_of, words_in

MOST_OPEN = 40
# Where the next word stands in the innermost datum that is not whole.
BEHIND_QUOTE = "behind a quote"
IN_LIST = "in a list"
BEHIND_DOT = "behind a dot"
BEHIND_TAIL = "behind the tail"


class Opened:
    """A bracket or a quote whose datum is not whole."""

    def __init__(self, state):
        self.state = state
        self.data = []


class Reader:
    """Takes words one by one; `data` are those that are whole, outside of all others.

    `known` are the data of the words that were taken so far, brackets and their like aside.
    """

    def __init__(self):
        self.data = []
        self.opened = []
        self.known = {}

    def where(self):
        """Where the next word stands; None outside of all data."""
        return self.opened[-1].state if self.opened else None

    def take(self, word, place):
        """Goes on by word: BadText if it cannot stand at place."""
        if word in self.known:
            self.take_single(self.known[word], place)
        elif word == "(":
            self.take_opening(IN_LIST, place)
        elif word == "'":
            self.take_opening(BEHIND_QUOTE, place)
        elif word == DOT:
            self.take_dot(place)
        elif word == ")":
            self.take_closing(place)
        elif is_integer(word):
            self.known[word] = number_of(word)
            self.take_single(self.known[word], place)
        elif is_name(word):
            self.known[word] = word
            self.take_single(word, place)
        else:
            raise BadText(place)

    def take_opening(self, state, place):
        if self.where() == BEHIND_TAIL or len(self.opened) == MOST_OPEN:
            raise BadText(place)
        self.opened.append(Opened(state))

    def take_dot(self, place):
        if self.where() != IN_LIST or not self.opened[-1].data:
            raise BadText(place)
        within = self.opened[-1]
        within.state = BEHIND_DOT

    def take_closing(self, place):
        if self.where() not in (IN_LIST, BEHIND_TAIL):
            raise BadText(place)
        made = self.opened.pop()
        tail = made.data.pop() if made.state == BEHIND_TAIL else EMPTY
        self.put(list_of(made.data, tail))

    def take_single(self, datum, place):
        """Goes on by an integer or a name."""
        if self.where() == BEHIND_TAIL:
            raise BadText(place)
        self.put(datum)

    def put(self, datum):
        """Puts a whole datum where it stands; with it, the quotes ahead of it are whole."""
        while self.where() == BEHIND_QUOTE:
            self.opened.pop()
            datum = list_of(["quote", datum], EMPTY)
        if not self.opened:
            self.data.append(datum)
            return
        within = self.opened[-1]
        within.data.append(datum)
        if within.state == BEHIND_DOT:
            within.state = BEHIND_TAIL


def data_in(text):
    """All data of text, in sequence."""
    return read_by(all_data, text)


def datum_in(text):
    """The one datum of text."""
    return read_by(lone_datum, text)


def read_by(look, text):
    """What look makes of the words of text."""
    if not isinstance(text, str):
        raise BadText((0, 0))
    try:
        return look([(word, None) for word in bare_words(text)], None)
    except BadText:
        pass
    # Where the words are is looked for only if they cannot stand, as it takes longer.
    words, end = words_in(text)
    return look(words, end)


def all_data(words, end):
    """All data of words with their places, in sequence; end is the place behind them."""
    reader = Reader()
    for word, place in words:
        reader.take(word, place)
    if reader.opened:
        raise BadText(end)
    return reader.data


def lone_datum(words, end):
    """The one datum of words with their places."""
    reader = Reader()
    for word, place in words:
        if reader.data:
            raise BadText(place)
        reader.take(word, place)
    if not reader.data:
        raise BadText(end)
    return reader.data[0]


def read(text):
    """The tuple of the data of text, each printed."""
    return tuple([datum_text(datum) for datum in data_in(text)])


def printed(text):
    """The one datum of text, printed."""
    return datum_text(datum_in(text))
