"""The words of texts: where they stand, and which of them are integers and names."""

FIGURES = "0123456789"
WORD_SIGNS = "abcdefghijklmnopqrstuvwxyz0123456789-?!*<=>+/."
LONGEST_NAME = 16
DOT = "."
# So many figures are read at once: Python itself reads no more than 4300.
CHUNK = 64
CHUNK_SCALE = 10 ** 64


def bare_words(text):
    """All words of text, in sequence; a sign that cannot stand is part of a word that then cannot stand either."""
    code = text
    if ";" in text:
        code = "\n".join([line.partition(";")[0] for line in text.split("\n")])
    for sign in "()'":
        code = code.replace(sign, " " + sign + " ")
    return [word for word in code.replace("\n", " ").split(" ") if word]


def words_in(text):
    """All words of text with their places, in sequence, and the place of its end.

    A sign that is part of no longer word is one by itself, also one that cannot stand.
    """
    lines = text.split("\n")
    found = []
    for number, line in enumerate(lines, start=1):
        for column, word in line_words(line):
            found.append((word, (number, column)))
    return found, (len(lines), len(lines[-1]) + 1)


def line_words(line):
    """The words of a line, each behind the number of its first sign."""
    code = line.partition(";")[0]
    found = []
    at = 0
    while at < len(code):
        end = word_end(code, at + 1) if code[at] in WORD_SIGNS else at + 1
        if code[at] != " ":
            found.append((at + 1, code[at:end]))
        at = end
    return found


def word_end(code, at):
    """Where the word ends that goes on at at, if it does."""
    end = at
    while end < len(code) and code[end] in WORD_SIGNS:
        end += 1
    return end


def is_integer(word):
    """Whether word is an integer as Python writes it."""
    figures = word.removeprefix("-")
    if word == "0":
        return True
    return has_only(figures, FIGURES) and not figures.startswith("0")


def is_name(word):
    """Whether word is a name."""
    if len(word) > LONGEST_NAME or word == DOT:
        return False
    return has_only(word, WORD_SIGNS) and not has_only(word, FIGURES + "-")


def has_only(word, signs):
    """Whether word has a sign, and none but those of signs."""
    return word != "" and word.strip(signs) == ""


def number_of(word):
    """The number of a word that is an integer, however long."""
    if len(word) <= CHUNK:
        return int(word)
    figures = word.removeprefix("-")
    parts = [int(figures[max(end - CHUNK, 0):end]) for end in range(len(figures), 0, -CHUNK)]
    scale = CHUNK_SCALE
    while len(parts) > 1:
        parts = paired(parts, scale)
        scale = scale * scale
    return -parts[0] if word.startswith("-") else parts[0]


def paired(parts, scale):
    """Each two neighbours of parts made one; the lower parts stand ahead."""
    made = [parts[at] + parts[at + 1] * scale for at in range(0, len(parts) - 1, 2)]
    if len(parts) % 2 == 1:
        made.append(parts[-1])
    return made
