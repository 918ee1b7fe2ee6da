"""Values that several tests use."""


class Stubborn:
    """A value that can not be compared or measured."""

    def __eq__(self, other):
        raise RuntimeError("compared")

    def __len__(self):
        raise RuntimeError("measured")

    __hash__ = None


HUGE = 10 ** 100 - 1
MOUNTAIN = 10 ** 6000

# Values of many kinds, none of which is a literal, a list or a tuple.
PLAIN = [None, True, False, 0, 1, -1, 1.5, "", "p", "yes", b"p", {}, {"yes": "p"}, set(), frozenset(), object(),
         Stubborn(), MOUNTAIN, len, int]

# Values of many kinds, none of which is a literal.
NO_LITERALS = PLAIN + [
    (), [], ("yes",), ("no",), ("most",), ("yes", "p", "q"), ("no", "p", 0), ("most", "x", "y"),
    ("most", "x", "y", 0, 0), ("most", "x"), ("yes", "x", "y", 0), ("no", "x", "y", 0),
    ["yes", "p"], ["no", "p"], ["most", "x", "y", 0], ("Yes", "p"), ("maybe", "p"), ("", "p"), ("least", "x", "y", 0),
    ("Most", "x", "y", 0), (b"yes", "p"), (True, "p"), (None, "x", "y", 0), (("yes", "p"),), (["yes"], "p"),
    ("yes", ""), ("yes", "P"), ("yes", "1p"), ("yes", "p-q"), ("yes", "abcdefghi"), ("no", "p q"), ("no", b"p"),
    ("no", None), ("no", ["p"]), ("yes", ("p",)),
    ("most", "x", "x", 0), ("most", "", "y", 0), ("most", "x", "", 0), ("most", "X", "y", 0), ("most", "x", "1", 0),
    ("most", 0, "y", 0), ("most", "x", None, 0), ("most", "x", "abcdefghi", 0),
    ("most", "x", "y", True), ("most", "x", "y", False), ("most", "x", "y", 0.0), ("most", "x", "y", "0"),
    ("most", "x", "y", None), (Stubborn(), "p"), ("yes", Stubborn()), (Stubborn(), "x", "y", 0),
    ("most", Stubborn(), "y", 0), ("most", "x", Stubborn(), 0), ("most", "x", "y", Stubborn()),
]

GOOD_NAMES = ["p", "z", "a0", "x9z", "abcdefgh", "a1234567", "z9999999"]
BAD_NAMES = ["", "abcdefghi", "a12345678", "0", "9a", "P", "pQ", "a_b", "_a", "a-b", "~p", "a b", " a", "a ", "a\n",
             "\t", "a=", "!", "a|b", "-a", None, 7, True, b"p", ["p"], ("p",)]


def yes(name):
    return ("yes", name)


def no(name):
    return ("no", name)


def most(x, y, k):
    return ("most", x, y, k)
