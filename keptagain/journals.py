"""Journals: what was done at a bench, as a text."""

from keptagain.benches import Bench, bench_lines
from keptagain.errors import BadJournal, BadNumber, NotOn
from keptagain.lines import BadLine, LineReader
from keptagain.printing import full_text


def journal(bench):
    """The text that tells what was done at bench."""
    return "\n".join(bench_lines(bench))


def read_journal(text):
    """The Bench at which this was done."""
    if not isinstance(text, str):
        raise BadJournal(0)
    try:
        return bench_told(LineReader(text))
    except BadLine as wrong:
        raise BadJournal(wrong.number) from None


def bench_told(lines):
    """The Bench that lines tell."""
    program = lines.read_program()
    inputs = tuple([full_text(datum) for datum in lines.read_inputs()])
    lines.lone_word("deeds")
    bench = Bench(program.text, inputs)
    while not lines.is_over():
        do_deed(bench, lines)
    return bench


def do_deed(bench, lines):
    """Does the deed that the next line tells."""
    word = lines.open_line()
    lines.need(word in ("rows", "goes", "collect"))
    number = None if word == "collect" else lines.take_number()
    lines.close_line()
    try:
        deed_done(bench, word, number)
    except (BadNumber, NotOn):
        raise BadLine(lines.at) from None


def deed_done(bench, word, number):
    """Does a deed, told by its word and number, and returns what it returns."""
    if word == "rows":
        return bench.steps(number)
    return bench.goes(number) if word == "goes" else bench.collect()
