"""Programs compiled: what their bodies are, what rows these have, and how high the pile is ahead of each."""

from keptagain.bodies import code_of
from keptagain.core import need_program
from keptagain.printing import datum_text

# How many worths more lie on the pile behind a row, but for those that tell themselves how many they take.
GROWTH = {
    "const": 1,
    "local": 1,
    "taken": 1,
    "local-cell": 1,
    "taken-cell": 1,
    "global": 1,
    "box": 0,
    "set-local": 0,
    "set-taken": 0,
    "set-global": 0,
    "def": 0,
    "drop": -1,
    "jump": 0,
    "unless": -1,
}
# Behind these the next row is not come to.
LEAVING = ("jump", "end-call", "back")


def bodies(program):
    """(kind, number of the form, names, names taken, names boxed) of each body."""
    need_program(program)
    return tuple([(body.kind, body.number, body.names, body.taken, body.boxed) for body in code_of(program).bodies])


def coded(program):
    """The rows of each body, as texts."""
    need_program(program)
    return tuple([tuple([row_text(row) for row in body.all_rows]) for body in code_of(program).bodies])


def row_text(row):
    word, *behind = row
    return " ".join([word] + [datum_text(datum) for datum in behind])


def heights(program):
    """How many worths lie on the pile ahead of each row of each body."""
    need_program(program)
    return tuple([body_heights(body.all_rows) for body in code_of(program).bodies])


def body_heights(rows):
    """The heights ahead of rows: what goes on elsewhere than in the next row goes on further down."""
    ahead = {0: 0}
    for at, row in enumerate(rows):
        behind = ahead[at] + growth_of(row)
        if row[0] not in LEAVING:
            ahead[at + 1] = behind
        if row[0] in ("jump", "unless"):
            ahead[row[1]] = behind
    return tuple([ahead[at] for at in range(len(rows))])


def growth_of(row):
    """How many worths more lie on the pile behind row, where a next row is come to."""
    if row[0] == "close":
        return 1 - row[2]
    if row[0] in ("call", "end-call"):
        return -row[1]
    return GROWTH.get(row[0], 0)
