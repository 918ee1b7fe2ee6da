"""The texts of literals, clauses and values, written and read.

The functions called `told_..` return None where a text has not the form, so that each reader can name its own line.
"""

from ringclause.errors import InvalidText
from ringclause.literals import check_literal, clause_of, is_bound, is_name

DIGITS = "0123456789"
MOST_DIGITS = 200
EMPTY_CLAUSE = "!"
BETWEEN_LITERALS = " | "


def write_literal(literal):
    """The text of a literal."""
    check_literal(literal)
    if is_bound(literal):
        _, first, second, limit = literal
        return f"{first}-{second}<={limit}"
    word, name = literal
    return name if word == "yes" else f"~{name}"


def write_clause(clause):
    """The text of the normal form of a clause."""
    literals = clause_of(clause)
    if len(literals) == 0:
        return EMPTY_CLAUSE
    texts = [write_literal(literal) for literal in literals]
    return " | ".join(texts)


def write_values(values):
    """The text of values."""
    names, times = values
    texts = [f"{name}={integer}" for name, integer in times]
    return " ".join([*names, *texts])


def write_yes(values):
    """The line that tells an end with values."""
    text = write_values(values)
    return f"yes {text}" if text else "yes"


def is_number(text, most):
    """True if the text has digits alone, no leading zero, and at most so many of them."""
    if not 1 <= len(text) <= most or (text[0] == "0" and text != "0"):
        return False
    return all([sign in DIGITS for sign in text])


def told_integer(text):
    """The integer that is written, or None."""
    below = text.startswith("-")
    digits = text[1:] if below else text
    if not is_number(digits, MOST_DIGITS) or (below and digits == "0"):
        return None
    return int(text)


def told_bound(text):
    """The bound that is written, or None."""
    names, _, written = text.partition("<=")
    first, _, second = names.partition("-")
    limit = told_integer(written)
    bound = ("most", first, second, limit)
    return bound if is_bound(bound) else None


def told_literal(text):
    """The literal that is written, or None."""
    if is_name(text):
        return ("yes", text)
    if text.startswith("~") and is_name(text[1:]):
        return ("no", text[1:])
    return told_bound(text)


def told_clause(text):
    """The clause that is written, or None."""
    if text == EMPTY_CLAUSE:
        return ()
    literals = [told_literal(part) for part in text.split(BETWEEN_LITERALS)]
    if None in literals:
        return None
    return clause_of(literals)


def told_time(text):
    """The pair of a moment and its integer that is written, or None."""
    name, _, written = text.partition("=")
    integer = told_integer(written)
    if not is_name(name) or integer is None:
        return None
    return (name, integer)


def told_values(text):
    """The values that are written, or None."""
    if text == "":
        return ((), ())
    words = text.split(" ")
    names = [word for word in words if is_name(word)]
    # A name behind a time leaves another name among the words that must be times.
    times = [told_time(word) for word in words[len(names):]]
    if None in times:
        return None
    moments = [name for name, _ in times]
    if names != sorted(set(names)) or moments != sorted(set(moments)):
        return None
    return (tuple(names), tuple(times))


def all_read(rows):
    """The tuple of what the lines of a text told; the first line that has not the form raises InvalidText."""
    for index, row in enumerate(rows):
        if row is None:
            raise InvalidText(index + 1)
    return tuple(rows)


def read_literal(text):
    """The literal with this text."""
    literal = told_literal(text)
    if literal is None:
        raise InvalidText(1)
    return literal


def read_clause(text):
    """The normal form of the clause with this text."""
    clause = told_clause(text)
    if clause is None:
        raise InvalidText(1)
    return clause


def read_values(text):
    """The values with this text."""
    values = told_values(text)
    if values is None:
        raise InvalidText(1)
    return values
