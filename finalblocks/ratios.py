"""Exact quotients of integers."""

from math import gcd

from finalblocks.errors import BadNumber, BadText, ByZero


class Ratio:
    """The quotient of two integers, kept in lowest terms; it never changes."""

    def __init__(self, top, bottom=1):
        if bottom == 0:
            raise ByZero()
        shared = gcd(top, bottom)
        if bottom < 0:
            shared = -shared
        self._top = top // shared
        self._bottom = bottom // shared

    @classmethod
    def read(cls, text):
        """The Ratio with a text."""
        top, slash, bottom = text.partition("/")
        if top != "0" and not _is_counting(top.removeprefix("-")):
            raise BadText()
        if slash == "":
            return cls(int(top))
        if not _is_counting(bottom):
            raise BadText()
        ratio = cls(int(top), int(bottom))
        # Only a quotient in lowest terms, with a bottom other than 1, has this text.
        if ratio.text() != text:
            raise BadText()
        return ratio

    @property
    def top(self):
        """The integer above the line, in lowest terms."""
        return self._top

    @property
    def bottom(self):
        """The integer below the line, in lowest terms; it is above 0."""
        return self._bottom

    def __add__(self, other):
        if not is_number(other):
            return NotImplemented
        right = as_ratio(other)
        return Ratio(self._top * right._bottom + right._top * self._bottom, self._bottom * right._bottom)

    def __sub__(self, other):
        if not is_number(other):
            return NotImplemented
        right = as_ratio(other)
        return Ratio(self._top * right._bottom - right._top * self._bottom, self._bottom * right._bottom)

    def __mul__(self, other):
        if not is_number(other):
            return NotImplemented
        right = as_ratio(other)
        return Ratio(self._top * right._top, self._bottom * right._bottom)

    def __neg__(self):
        return Ratio(-self._top, self._bottom)

    def __eq__(self, other):
        if isinstance(other, Ratio):
            return self._top == other._top and self._bottom == other._bottom
        # True and False equal 1 and 0 for Python, but they are no numbers here.
        return is_whole(other) and self._bottom == 1 and self._top == other

    def __lt__(self, other):
        if not is_number(other):
            return NotImplemented
        right = as_ratio(other)
        return self._top * right._bottom < right._top * self._bottom

    def __le__(self, other):
        if not is_number(other):
            return NotImplemented
        right = as_ratio(other)
        return self._top * right._bottom <= right._top * self._bottom

    def over(self, number):
        """The quotient by a number."""
        right = as_ratio(number)
        # The new bottom is 0 just if the number is, so the ByZero is raised where the Ratio is made.
        return Ratio(self._top * right._bottom, self._bottom * right._top)

    def text(self):
        """The top in decimal notation, and the bottom behind a slash if it is not 1."""
        if self._bottom == 1:
            return str(self._top)
        return f"{self._top}/{self._bottom}"


def _is_counting(word):
    """Whether a word is the decimal notation of an integer above 0."""
    return word.isascii() and word.isdigit() and not word.startswith("0")


def is_whole(given):
    """Whether a value is an integer."""
    return isinstance(given, int) and not isinstance(given, bool)


def is_number(given):
    """Whether a value is a number: an integer or a Ratio."""
    return isinstance(given, Ratio) or is_whole(given)


def is_amount(given):
    """Whether a value is a number that is at least 0."""
    return is_number(given) and Ratio(0) <= given


def as_ratio(given):
    """The Ratio that is equal to a number."""
    if isinstance(given, Ratio):
        return given
    if is_whole(given):
        return Ratio(given)
    raise BadNumber(given)


def lesser(one, other):
    """The less one of two numbers."""
    left = as_ratio(one)
    right = as_ratio(other)
    return left if left <= right else right


def greater(one, other):
    """The greater one of two numbers."""
    left = as_ratio(one)
    right = as_ratio(other)
    return right if left <= right else left


def total(numbers):
    """The sum of a list of numbers."""
    whole = Ratio(0)
    for number in numbers:
        whole = whole + as_ratio(number)
    return whole


def raised(number, exponent):
    """The product of so many equal numbers."""
    base = as_ratio(number)
    top = 1
    bottom = 1
    # Powers of a top and a bottom in lowest terms are so, too: one Ratio at the end is enough.
    for _ in range(exponent):
        top = top * base.top
        bottom = bottom * base.bottom
    return Ratio(top, bottom)
