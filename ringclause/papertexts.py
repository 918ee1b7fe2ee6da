"""The texts of papers, written and read.

The functions called `told_..` return None where a text has not the form, so that the reader can name its line.
"""

from ringclause.papers import clauses_of
from ringclause.texts import (
    all_read, is_number, told_bound, told_clause, told_integer, told_literal, write_clause, write_literal)

MOST_INDEX_DIGITS = 9
BETWEEN_PARTS = " : "
BETWEEN_ITEMS = " , "


def write_paper(paper):
    """The text of a paper: one line for each step."""
    clauses_of(paper)
    return "\n".join([write_step(step) for step in paper])


def read_paper(text):
    """The steps with this text; whether they are right is not checked."""
    return all_read([told_step(line) for line in text.split("\n")])


def write_step(step):
    """The line of a right step."""
    word, *parts = step
    if word == "given":
        return f"given {write_clause(parts[0])}"
    if word == "either":
        return f"either {write_literal(parts[0])}"
    if word == "ring":
        return f"ring {write_literals(parts[0])} : {parts[1]}"
    clause, first, rows = parts
    line = f"learn {write_clause(clause)} : {first}"
    if len(rows) == 0:
        return line
    pairs = [f"{write_literal(pivot)} {index}" for pivot, index in rows]
    return " : ".join([line, " , ".join(pairs)])


def write_literals(literals):
    """The text of one or more literals."""
    return " , ".join([write_literal(literal) for literal in literals])


def told_step(line):
    """The step that is written, or None."""
    word, _, rest = line.partition(" ")
    parts = rest.split(BETWEEN_PARTS)
    if word == "given":
        return told_form(word, [told_clause(rest)])
    if word == "either":
        return told_form(word, [told_literal(rest)])
    if word == "ring" and len(parts) == 2:
        return told_form(word, [told_bounds(parts[0]), told_integer(parts[1])])
    if word == "learn" and 2 <= len(parts) <= 3:
        return told_form(word, [told_clause(parts[0]), told_index(parts[1]), told_rows(parts[2:])])
    return None


def told_form(word, parts):
    """The tuple of the word and its parts, None if a part is None."""
    return None if None in parts else (word, *parts)


def told_bounds(text):
    """The tuple of one or more bounds that is written, or None."""
    bounds = [told_bound(part) for part in text.split(BETWEEN_ITEMS)]
    return None if None in bounds else tuple(bounds)


def told_index(text):
    """The index that is written, or None."""
    return int(text) if is_number(text, MOST_INDEX_DIGITS) else None


def told_rows(parts):
    """The rows that the last part tells, none if there is no such part; None if one has not the form."""
    rows = [told_row(text) for part in parts for text in part.split(BETWEEN_ITEMS)]
    return None if None in rows else tuple(rows)


def told_row(text):
    """The pair of a pivot and an index that is written, or None."""
    written, _, digits = text.partition(" ")
    pivot = told_literal(written)
    index = told_index(digits)
    return None if pivot is None or index is None else (pivot, index)
