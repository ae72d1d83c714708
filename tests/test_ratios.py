import inspect
import unittest
from fractions import Fraction
from itertools import product

from finalblocks import ratios
from finalblocks.errors import BadNumber, BadText, ByZero
from finalblocks.ratios import Ratio, as_ratio, greater, lesser, raised, total
from tests.values import ANY_VALUES

BIG = 10 ** 60 - 1
OTHER_BIG = 7 * 10 ** 59 + 12345678901
SMALL = [(top, bottom) for top in range(-4, 5) for bottom in range(-4, 5) if bottom != 0]
INTEGERS = [0, 1, -1, 2, -3, BIG, -BIG, OTHER_BIG]
RATIOS = [(0, 1), (1, 2), (-1, 2), (3, 1), (-2, 1), (7, 3), (BIG, OTHER_BIG), (-OTHER_BIG, BIG), (1, BIG), (BIG, 1)]
NO_NUMBERS = [value for value in ANY_VALUES if not isinstance(value, Ratio) and value.__class__ is not int]


def fraction(number):
    """The same number as a Fraction, which is counted with independently."""
    return Fraction(number) if isinstance(number, int) else Fraction(number.top, number.bottom)


class Checks(unittest.TestCase):
    def assert_ratio(self, found, expected):
        """It is a Ratio, in lowest terms, of this value."""
        expected = Fraction(expected)
        self.assertIs(found.__class__, Ratio)
        self.assertEqual((found.top, found.bottom), (expected.numerator, expected.denominator))
        self.assertIs(found.top.__class__, int)
        self.assertIs(found.bottom.__class__, int)


class Examples(unittest.TestCase):
    """The examples of the interface."""

    def test_them(self):
        half = Ratio(-3, -6)
        self.assertEqual(
            (half.top, half.bottom, (half - 2).text(), half.over(Ratio(3, 4)).text(), half <= Ratio(1, 2),
             raised(half, 3).text()),
            (1, 2, "-3/2", "2/3", True, "1/8"))
        self.assertEqual(
            (lesser(half, 1) == half, greater(-half, -1).text(), total([half, 1, half]).text(),
             Ratio.read("-7/3").bottom),
            (True, "-1/2", "2", 3))
        with self.assertRaises(BadNumber) as caught:
            as_ratio("1/2")
        self.assertEqual(caught.exception.given, "1/2")

    def test_where_things_stand(self):
        for name in ["Ratio", "as_ratio", "lesser", "greater", "total", "raised"]:
            self.assertEqual(getattr(ratios, name).__module__, "finalblocks.ratios", name)
        for name in ["__init__", "read", "top", "bottom", "__add__", "__sub__", "__mul__", "__neg__", "__eq__",
                     "__lt__", "__le__", "over", "text"]:
            self.assertIn(name, Ratio.__dict__)
        self.assertIsInstance(Ratio.__dict__["read"], classmethod)
        self.assertIsInstance(Ratio.__dict__["top"], property)
        self.assertIsInstance(Ratio.__dict__["bottom"], property)

    def test_arguments_by_name(self):
        self.assertEqual(Ratio(top=2, bottom=4), Ratio(1, 2))
        self.assertEqual(Ratio(top=2), 2)
        self.assertEqual(Ratio.read(text="2/3"), Ratio(2, 3))
        self.assertEqual(Ratio(1).over(number=2), Ratio(1, 2))
        self.assertEqual(as_ratio(given=3), 3)
        self.assertEqual(lesser(one=3, other=2), 2)
        self.assertEqual(greater(one=3, other=2), 3)
        self.assertEqual(total(numbers=[1, 2]), 3)
        self.assertEqual(raised(number=2, exponent=3), 8)
        self.assertEqual(list(inspect.signature(Ratio).parameters), ["top", "bottom"])


class LowestTerms(Checks):
    """[10]: how a Ratio is made."""

    def test_all_small_quotients(self):
        for top, bottom in SMALL:
            self.assert_ratio(Ratio(top, bottom), Fraction(top, bottom))

    def test_the_bottom_may_be_left_out(self):
        for top in INTEGERS:
            self.assert_ratio(Ratio(top), top)

    def test_long_integers(self):
        for top, bottom in product([BIG, -BIG, OTHER_BIG, 6 * BIG], [BIG, -BIG, OTHER_BIG, -4 * BIG]):
            self.assert_ratio(Ratio(top, bottom), Fraction(top, bottom))

    def test_a_top_of_0(self):
        for bottom in [1, -1, 7, -7, BIG, -BIG]:
            self.assert_ratio(Ratio(0, bottom), 0)

    def test_a_bottom_of_0(self):
        for top in INTEGERS:
            with self.assertRaises(ByZero):
                Ratio(top, 0)

    def test_top_and_bottom_can_not_be_set(self):
        half = Ratio(1, 2)
        for name in ["top", "bottom"]:
            with self.assertRaises(AttributeError):
                setattr(half, name, 3)
        self.assert_ratio(half, Fraction(1, 2))


class Operations(Checks):
    """[10]: the operations, with Ratios and with integers on the right."""

    def pairs(self):
        small = [Ratio(top, bottom) for top, bottom in SMALL]
        others = [Ratio(top, bottom) for top, bottom in RATIOS]
        yield from product(small, small + [-3, -1, 0, 1, 2])
        yield from product(others, others + INTEGERS)

    def test_sums_differences_and_products(self):
        for left, right in self.pairs():
            one, other = fraction(left), fraction(right)
            self.assert_ratio(left + right, one + other)
            self.assert_ratio(left - right, one - other)
            self.assert_ratio(left * right, one * other)

    def test_comparisons(self):
        for left, right in self.pairs():
            one, other = fraction(left), fraction(right)
            self.assertIs(left == right, one == other)
            self.assertIs(left != right, one != other)
            self.assertIs(left < right, one < other)
            self.assertIs(left <= right, one <= other)

    def test_quotients(self):
        for left, right in self.pairs():
            if fraction(right) == 0:
                with self.assertRaises(ByZero):
                    left.over(right)
            else:
                self.assert_ratio(left.over(right), fraction(left) / fraction(right))

    def test_quotients_by_0(self):
        for left, zero in product([Ratio(1), Ratio(0), Ratio(-5, 3)], [0, Ratio(0), Ratio(0, -7)]):
            with self.assertRaises(ByZero):
                left.over(zero)

    def test_the_opposite_number(self):
        for top, bottom in SMALL + RATIOS:
            self.assert_ratio(-Ratio(top, bottom), -Fraction(top, bottom))

    def test_operations_leave_the_numbers_as_they_were(self):
        left, right = Ratio(1, 2), Ratio(2, 3)
        made = [left + right, left - right, left * right, -left, left.over(right), left < right, left == right]
        self.assertEqual(len(made), 7)
        self.assert_ratio(left, Fraction(1, 2))
        self.assert_ratio(right, Fraction(2, 3))


class Equality(unittest.TestCase):
    """[6], [10]: what a Ratio is equal to."""

    def test_integers_on_either_side(self):
        for number in INTEGERS:
            self.assertTrue(Ratio(number) == number)
            self.assertTrue(number == Ratio(number))
            self.assertFalse(Ratio(number) != number)
            self.assertFalse(Ratio(number) == number + 1)
            self.assertFalse(Ratio(number * 2 + 1, 2) == number)

    def test_values_that_are_no_numbers(self):
        for value, number in product(NO_NUMBERS, [Ratio(0), Ratio(1), Ratio(-1), Ratio(1, 2), Ratio(10 ** 60)]):
            self.assertIs(number == value, False, value)
            self.assertIs(value == number, False, value)
            self.assertIs(number != value, True, value)

    def test_true_and_false(self):
        self.assertFalse(Ratio(1) == True)  # noqa: E712
        self.assertFalse(True == Ratio(1))
        self.assertFalse(Ratio(0) == False)  # noqa: E712
        self.assertFalse(False == Ratio(0))

    def test_its_own_text_and_terms(self):
        self.assertFalse(Ratio(1, 2) == "1/2")
        self.assertFalse(Ratio(1, 2) == (1, 2))
        self.assertFalse(Ratio(1, 2) == Fraction(1, 2))
        self.assertFalse(Ratio(1, 2) == 0.5)


class Texts(Checks):
    """[11]: texts of Ratios."""

    def test_some(self):
        for (top, bottom), text in [
                ((3, 1), "3"), ((-2, 5), "-2/5"), ((0, 1), "0"), ((0, -4), "0"), ((-6, 2), "-3"), ((6, -4), "-3/2"),
                ((10, 1), "10"), ((1, 10), "1/10"), ((BIG, 1), "9" * 60), ((-1, BIG), "-1/" + "9" * 60)]:
            self.assertEqual(Ratio(top, bottom).text(), text)
            self.assert_ratio(Ratio.read(text), Fraction(top, bottom))

    def test_texts_read_back(self):
        for top, bottom in SMALL + RATIOS:
            ratio = Ratio(top, bottom)
            self.assert_ratio(Ratio.read(ratio.text()), Fraction(top, bottom))

    def test_long_texts(self):
        digits = "1" + "0" * 3998
        for text in [digits, "-" + digits, "1/" + digits, f"{digits}/{'9' * 3000}"]:
            self.assertEqual(Ratio.read(text).text(), text)

    def test_texts_that_are_none(self):
        for text in [
                "", " ", "/", "-", "--", "+3", "-0", "+0", "00", "01", "-01", "0/1", "0/2", "-0/2", "1/1", "3/1", "2/4",
                "-2/4", "1/0", "0/0", "-1/0", "1/-2", "-1/-2", "1/+2", "1/02", "01/2", "1/", "/2", "-/2", "-1/", "1//2",
                "1/2/3", "--1", "1-", "1.0", "0.5", "1e3", "1_0", "1 ", " 1", "1/ 2", "1 /2", "1\n", "\n1", "1/2\n",
                "- 1", "0x1", "a", "one", "1/b", "None", "True", "6/3", "3/3", "-3/3", "0/-1", "1,5", "(1)", "1/2 ",
                "\u0661", "\u00b2", "\u00bd", "1/\u0662"]:
            with self.assertRaises(BadText):
                Ratio.read(text)

    def test_long_texts_that_are_none(self):
        for text in ["0" * 4000, "-" * 4000, "1" * 4000 + "x", "/" * 4000, "0" * 9000, "2" * 2000 + "/" + "4" * 1999,
                     "1/" + "0" * 3998]:
            with self.assertRaises(BadText):
                Ratio.read(text)

    def test_every_short_string(self):
        """Of all short strings just those are read that are the text of some Ratio."""
        texts = {Ratio(top, bottom).text() for top in range(-22, 23) for bottom in range(1, 23)}
        texts |= {Ratio(top).text() for top in range(-222, 2223)}
        letters = "-+/012 "
        for length in range(5):
            for word in map("".join, product(letters, repeat=length)):
                if word in texts:
                    self.assertEqual(Ratio.read(word).text(), word)
                else:
                    with self.assertRaises(BadText):
                        Ratio.read(word)


class Numbers(Checks):
    """[11]: the functions over numbers."""

    def test_as_ratio(self):
        for number in INTEGERS + [Ratio(top, bottom) for top, bottom in RATIOS]:
            self.assert_ratio(as_ratio(number), fraction(number))

    def test_as_ratio_of_other_values(self):
        for value in NO_NUMBERS + [0.5, Fraction(1, 2), object()]:
            with self.assertRaises(BadNumber) as caught:
                as_ratio(value)
            self.assertIs(caught.exception.given.__class__, value.__class__)
            self.assertEqual(caught.exception.given, value)

    def test_lesser_and_greater(self):
        numbers = INTEGERS + [Ratio(top, bottom) for top, bottom in RATIOS + SMALL]
        for one, other in product(numbers, numbers):
            self.assert_ratio(lesser(one, other), min(fraction(one), fraction(other)))
            self.assert_ratio(greater(one, other), max(fraction(one), fraction(other)))

    def test_total(self):
        self.assert_ratio(total([]), 0)
        self.assert_ratio(total(()), 0)
        self.assert_ratio(total([5]), 5)
        self.assert_ratio(total((1, Ratio(1, 2), -3)), Fraction(-3, 2))
        self.assert_ratio(total([Ratio(1, 3)] * 3), 1)
        self.assert_ratio(total([1, -1]), 0)
        self.assert_ratio(total([Ratio(BIG, OTHER_BIG), BIG, -OTHER_BIG]), Fraction(BIG, OTHER_BIG) + BIG - OTHER_BIG)

    def test_total_leaves_the_list_as_it_was(self):
        numbers = [1, Ratio(1, 2)]
        total(numbers)
        self.assertEqual(numbers, [1, Ratio(1, 2)])

    def test_raised(self):
        for number, exponent in product([0, 1, -1, 2, Ratio(1, 2), Ratio(-2, 3), BIG], [0, 1, 2, 3, 7, 200]):
            self.assert_ratio(raised(number, exponent), fraction(number) ** exponent)

    def test_raised_to_0(self):
        for number in [0, Ratio(0), 5, Ratio(-7, 2), BIG]:
            self.assert_ratio(raised(number, 0), 1)

    def test_raised_to_200(self):
        long = Ratio(BIG, OTHER_BIG)
        self.assert_ratio(raised(long, 200), Fraction(BIG, OTHER_BIG) ** 200)
        self.assert_ratio(raised(-2, 200), 2 ** 200)


if __name__ == "__main__":
    unittest.main()
