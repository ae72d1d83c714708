"""Values of every kind that the document names for the argument of an error."""

from finalblocks.ratios import Ratio

# Kinds that can't be keys of a dict stand apart.
FIT_FOR_KEYS = [
    None, True, False, 0, 1, -1, 10 ** 60, "", "a", "A", "ab cd", "a\n", "1/2", (), ("a",), ("a", None, (True, 7)),
]
UNFIT_FOR_KEYS = [
    Ratio(1), Ratio(-1, 2), [], ["a"], [[True], {"a": [1]}], {}, {"a": "b"}, {1: {2: None}}, ([],), ("a", [1]),
    ("a", Ratio(1, 3)),
]
ANY_VALUES = FIT_FOR_KEYS + UNFIT_FOR_KEYS
NO_NAMES = [
    "", "A", "aB", "abcdefghi", "a" * 100, "a1", "1", "a b", " a", "a ", "a\n", "\n", "a_b", "a-b", "a.b", "None",
    "\u00e9", "a\u00df", "\u0430", "\u00aa",
]


def same(one, other):
    """Whether two values are equal and of one kind: True is not the same as 1 here."""
    return one.__class__ is other.__class__ and one == other
