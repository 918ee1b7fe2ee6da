"""Logs: lists of deeds, held against the rules and the strategy, written and read.

The functions called `told_..` return None where a text has not the form, so that the reader can name its line.
"""

from ringclause.machine import PACE, SPREAD, Machine
from ringclause.papertexts import BETWEEN_PARTS, told_bounds, told_form, told_index, write_literals
from ringclause.strategy import planned
from ringclause.texts import all_read, told_clause, told_literal, told_values, write_clause, write_literal, write_yes


def first_wrong(question, log, *, extra=(), pace=PACE, spread=SPREAD):
    """The index of the first deed of a log that is not allowed, None if there is none."""
    machine = Machine(question, extra=extra, pace=pace, spread=spread)
    for index, deed in enumerate(log):
        if not machine.allows(deed):
            return index
        machine.do(deed)
    return None


def first_unplanned(question, log, *, order=(), pace=PACE, spread=SPREAD):
    """The index of the first deed of a log that is not the planned one, None if there is none."""
    machine = Machine(question, extra=order, pace=pace, spread=spread)
    for index, deed in enumerate(log):
        # Python takes True and 1 for equal, so a deed that is not allowed must not be compared.
        if not machine.allows(deed) or deed != planned(machine, *order):
            return index
        machine.do(deed)
    return None


def write_log(log):
    """The text of a log: one line for each deed."""
    return "\n".join([write_deed(deed) for deed in log])


def read_log(text):
    """The deeds with this text; whether they are allowed is not checked."""
    if text == "":
        return ()
    return all_read([told_deed(line) for line in text.split("\n")])


def write_deed(deed):
    """The line of a deed."""
    word, *parts = deed
    if word == "put":
        return f"put {write_literal(parts[0])} : {write_source(parts[1])}"
    if word == "decide":
        return f"decide {write_literal(parts[0])}"
    if word == "learn":
        clash, steps, clause = parts
        return f"learn {write_clause(clause)} : {write_source(clash)} : {steps}"
    if word == "yes":
        return write_yes(parts[0])
    if word == "no":
        return f"no : {write_source(parts[0])}"
    return word


def write_source(source):
    """The text of a reason or a clash: the number of a clause, or bounds."""
    word, told = source
    return str(told) if word == "clause" else write_literals(told)


def told_deed(line):
    """The deed that is written, or None."""
    head, *parts = line.split(BETWEEN_PARTS)
    word, _, rest = head.partition(" ")
    if word == "put" and len(parts) == 1:
        return told_form(word, [told_literal(rest), told_source(parts[0], "chain")])
    if word == "decide" and len(parts) == 0:
        return told_form(word, [told_literal(rest)])
    if word == "learn" and len(parts) == 2:
        return told_form(word, [told_source(parts[0], "ring"), told_index(parts[1]), told_clause(rest)])
    if word == "yes":
        return told_end(line)
    if head == "no" and len(parts) == 1:
        return told_form(word, [told_source(parts[0], "ring")])
    return ("restart",) if line == "restart" else None


def told_end(line):
    """The end with values that is written, or None."""
    if line == "yes":
        return ("yes", ((), ()))
    text = line[len("yes "):]
    return None if text == "" else told_form("yes", [told_values(text)])


def told_source(text, word):
    """The reason or clash that is written, or None; the word is that for bounds."""
    number = told_index(text)
    if number is not None:
        return ("clause", number)
    return told_form(word, [told_bounds(text)])
