"""Literals, atoms, clauses in normal form, and whether they hold under values."""

from ringclause.errors import InvalidClause, InvalidLiteral, UnknownMoment

LETTERS = "abcdefghijklmnopqrstuvwxyz"
SIGNS = "abcdefghijklmnopqrstuvwxyz0123456789"
LONGEST_NAME = 8


def is_name(value):
    """True if the value is a name."""
    if not isinstance(value, str) or not 1 <= len(value) <= LONGEST_NAME:
        return False
    return value[0] in LETTERS and value.strip(SIGNS) == ""


def is_integer(value):
    """True if the value is an integer; True and False are none."""
    return isinstance(value, int) and not isinstance(value, bool)


def is_bound(value):
    """True if the value is a literal about two moments."""
    if not isinstance(value, tuple) or len(value) != 4:
        return False
    word, first, second, limit = value
    if not isinstance(word, str) or word != "most":
        return False
    return is_name(first) and is_name(second) and first != second and is_integer(limit)


def is_literal(value):
    """True if the value is a literal."""
    if is_bound(value):
        return True
    if not isinstance(value, tuple) or len(value) != 2:
        return False
    word, name = value
    return isinstance(word, str) and word in ("yes", "no") and is_name(name)


def is_clause(value):
    """True if the value is a clause in normal form."""
    if not isinstance(value, tuple) or not all([is_literal(item) for item in value]):
        return False
    return value == clause_of(value)


def check_literal(value):
    """Raise InvalidLiteral if the value is not a literal."""
    if not is_literal(value):
        raise InvalidLiteral(value)


def complement(literal):
    """The literal that holds exactly where this one does not."""
    check_literal(literal)
    return opposite(literal)


def opposite(literal):
    """The complement of a value that surely is a literal."""
    if literal[0] == "most":
        _, first, second, limit = literal
        # Moments are integers, so "not at most k" is "at least k + 1".
        return ("most", second, first, -limit - 1)
    word, name = literal
    return ("no", name) if word == "yes" else ("yes", name)


def atom_of(literal):
    """The one of the literal and its complement that stands for both."""
    check_literal(literal)
    other = opposite(literal)
    if literal[0] == "most":
        return literal if literal[1] < literal[2] else other
    return literal if literal[0] == "yes" else other


def atoms_of(literals):
    """The atoms of the literals, ascending, without duplicates."""
    return tuple(sorted({atom_of(literal) for literal in literals}))


def truths_of(literals):
    """The truths in the literals, ascending, without duplicates."""
    return tuple(sorted({literal[1] for literal in literals if not is_bound(literal)}))


def moments_of(literals):
    """The moments in the literals, ascending, without duplicates."""
    return tuple(sorted({name for literal in literals if is_bound(literal) for name in literal[1:3]}))


def clause_of(literals):
    """The normal form of a clause."""
    if not isinstance(literals, (list, tuple)):
        raise InvalidClause(literals)
    for literal in literals:
        check_literal(literal)
    return normal_form(literals)


def normal_form(literals):
    """The normal form of a list or tuple of values that surely are literals."""
    return tuple(sorted(set(literals)))


def check_listed(moments, values):
    """Raise UnknownMoment for the first of the moments that the values do not list."""
    listed = [name for name, _ in values[1]]
    for name in moments:
        if name not in listed:
            raise UnknownMoment(name)


def literal_stands(literal, names, table):
    """Whether a literal holds; the truths in `names` hold, `table` has the integers of the moments."""
    if is_bound(literal):
        _, first, second, limit = literal
        return table[first] - table[second] <= limit
    word, name = literal
    return (name in names) == (word == "yes")


def clauses_stand(clauses, values):
    """Whether all clauses hold under values that list their moments."""
    names, times = values
    table = dict(times)
    for clause in clauses:
        if not any([literal_stands(literal, names, table) for literal in clause]):
            return False
    return True


def holds(literal, values):
    """Whether a literal holds under values."""
    return clause_holds((literal,), values)


def clause_holds(clause, values):
    """Whether a clause holds under values; they list all its moments, also those that decide nothing."""
    literals = clause_of(clause)
    check_listed(moments_of(literals), values)
    return clauses_stand((literals,), values)
