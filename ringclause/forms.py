"""Forms of values that may be of any kind: tuples that begin with a word, values of names, and limits."""

from ringclause.errors import InvalidLimit, InvalidWeights
from ringclause.literals import is_integer, is_name


def begins_with(value, word):
    """True if the value is a tuple whose first part is the word."""
    if not isinstance(value, tuple) or len(value) == 0:
        return False
    return isinstance(value[0], str) and value[0] == word


def is_form(value, word, size):
    """True if the value is a tuple of so many parts, the first of which is the word."""
    return begins_with(value, word) and len(value) == size


def is_index(value):
    """True if the value is an integer of at least 0."""
    return is_integer(value) and value >= 0


def check_limit(value, least):
    """Raise InvalidLimit if the value is not an integer of at least `least`."""
    if not is_integer(value) or value < least:
        raise InvalidLimit(value)


def check_weights(values):
    """Raise InvalidWeights if one of the values is not a positive integer."""
    if not all([is_integer(value) and value > 0 for value in values]):
        raise InvalidWeights()


def is_values(value):
    """True if the value has the form of the values of names."""
    if not isinstance(value, tuple) or len(value) != 2:
        return False
    names, times = value
    return are_names(names) and are_times(times)


def are_names(value):
    """True if the value is an ascending tuple of names without duplicates."""
    if not isinstance(value, tuple) or not all([is_name(item) for item in value]):
        return False
    return list(value) == sorted(set(value))


def are_times(value):
    """True if the value is a tuple of pairs of a moment and an integer, with ascending moments."""
    if not isinstance(value, tuple) or not all([is_time(item) for item in value]):
        return False
    return are_names(tuple([name for name, _ in value]))


def is_time(value):
    """True if the value is a pair of a moment and an integer."""
    return isinstance(value, tuple) and len(value) == 2 and is_name(value[0]) and is_integer(value[1])
