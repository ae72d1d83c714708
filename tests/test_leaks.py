from fractions import Fraction
from itertools import product
from random import Random

from finalblocks import leaks
from finalblocks.errors import BadCount, BadRate, BadShare, BadWeight, NoWay
from finalblocks.leaks import both_final, enough, holds_out, leaked, least_here, rounds_until
from finalblocks.ratios import Ratio
from tests import model
from tests.checks import Checks
from tests.model import fraction, number
from tests.values import ANY_VALUES, same

BIG = 10 ** 59
TINY = Fraction(1, 10 ** 40)
RATES = [Fraction(0), Fraction(1), Fraction(1, 2), Fraction(1, 4), Fraction(1, 10), Fraction(2, 3), Fraction(99, 100)]
WEIGHTS = [Fraction(0), Fraction(1), Fraction(2), Fraction(1, 3), Fraction(7, 2), Fraction(40)]
COUNTS = [0, 1, 2, 3, 10, 199, 200]


def without(good):
    """The values of every kind but some."""
    return [value for value in ANY_VALUES if not any(same(value, other) for other in good)]


NO_AMOUNTS = without([0, 1, 10 ** 60, Ratio(1)]) + [-1, Ratio(-1, BIG), Ratio(-3), 0.5]
NO_RATES = without([0, 1, Ratio(1)]) + [2, -1, Ratio(BIG + 1, BIG), Ratio(-1, BIG), Ratio(3, 2), 0.5]
NO_SHARES = without([1, Ratio(1)]) + [Ratio(1, 2), Ratio(BIG + 1, BIG), 0, 2, Ratio(1, 3), Ratio(-2, 3), 0.75]
NO_COUNTS = without([0, 1]) + [-1, 201, 10 ** 60, Ratio(1), Ratio(0), Ratio(5), 1.0, "3"]


def is_enough(here, away, share):
    return here >= share * (here + away)


def first_round(here, away, rate, share, most=2000):
    """The least number of rounds after which there is enough, tried one after the other; None up to many."""
    for rounds in range(most):
        if is_enough(here, away, share):
            return rounds
        away *= 1 - rate
        # What is away may be rounded down where this makes no difference, so that it stays short.
        if rounds > 60 and here and share < 1:
            away = Fraction(-(-away.numerator * 10 ** 80 // away.denominator), 10 ** 80)
    return None


class Examples(Checks):
    """The examples of the interface."""

    def test_them(self):
        self.assertEqual((leaked(8, Ratio(1, 4), 2).text(), enough(2, 1, Ratio(2, 3)),
                          rounds_until(1, 1, Ratio(1, 4), Ratio(2, 3)), rounds_until(0, 1, Ratio(1, 4), Ratio(2, 3))),
                         ("9/2", True, 3, None))
        self.assertEqual((both_final(1, 1, 0, 0, Ratio(1, 4), Ratio(2, 3)),
                          both_final(2, 1, 1, 0, Ratio(1, 10), Ratio(2, 3))), ((3, 3), (0, 7)))
        self.assertEqual((least_here(3, Ratio(1, 2), Ratio(2, 3), 1).text(),
                          holds_out(3, Ratio(1, 2), Ratio(2, 3), 1, 1)), ("3/2", True))
        self.assert_given(BadWeight, -1, rounds_until, 1, -1, 2, 1)

    def test_where_things_stand(self):
        for name in ["leaked", "enough", "rounds_until", "both_final", "least_here", "holds_out"]:
            self.assertEqual(getattr(leaks, name).__module__, "finalblocks.leaks", name)

    def test_arguments_by_name(self):
        self.assertEqual(leaked(weight=8, rate=Ratio(1, 4), rounds=2), Ratio(9, 2))
        self.assertIs(enough(here=2, away=1, share=Ratio(2, 3)), True)
        self.assertEqual(rounds_until(here=1, away=1, rate=Ratio(1, 4), share=Ratio(2, 3)), 3)
        self.assertEqual(both_final(one=2, other=1, both=1, none=0, rate=Ratio(1, 10), share=Ratio(2, 3)), (0, 7))
        self.assertEqual(least_here(whole=3, rate=Ratio(1, 2), share=Ratio(2, 3), rounds=1), Ratio(3, 2))
        self.assertIs(holds_out(whole=3, rate=Ratio(1, 2), share=Ratio(2, 3), rounds=1, here=1), True)


class Leaking(Checks):
    """[37]: what is left, when it is enough, and after how many rounds."""

    def test_leaked(self):
        for weight, rate, rounds in product(WEIGHTS, RATES, COUNTS):
            told = leaked(number(weight), number(rate), rounds)
            self.assertIs(told.__class__, Ratio)
            self.assertEqual(fraction(told), weight * (1 - rate) ** rounds)
        self.assertEqual(leaked(Ratio(BIG), Ratio(1, BIG), 200).bottom, BIG ** 199)
        self.assertEqual((leaked(5, 0, 200), leaked(5, 1, 0), leaked(5, Ratio(1), 1)), (5, 5, 0))

    def test_enough(self):
        for here, away, share in product(WEIGHTS, WEIGHTS, model.SHARES):
            self.assertIs(enough(number(here), number(away), number(share)), is_enough(here, away, share))
        for here, away, share, expected in [
                (0, 0, 1, True), (0, 0, Ratio(2, 3), True), (5, 0, 1, True), (5, Ratio(1, BIG), 1, False),
                (2 * BIG, BIG, Ratio(2, 3), True), (2 * BIG - 1, BIG, Ratio(2, 3), False), (1, 1, Ratio(2, 3), False),
                (1, 1, Ratio(BIG + 1, 2 * BIG), False), (BIG + 1, BIG - 1, Ratio(BIG + 1, 2 * BIG), True),
                (BIG, BIG, Ratio(BIG + 1, 2 * BIG), False)]:
            self.assertIs(enough(here, away, share), expected)

    def test_rounds_until(self):
        found = set()
        for here, away, rate, share in product(WEIGHTS, WEIGHTS, RATES, model.SHARES):
            expected = first_round(here, away, rate, share, 201)
            arguments = [number(value) for value in [here, away, rate, share]]
            if expected is None and rate > 0 and here > 0 and share < 1:
                with self.assertRaises(NoWay):
                    rounds_until(*arguments)
                continue
            told = rounds_until(*arguments)
            self.assertTrue(same(told, expected), (arguments, told))
            found.add(told)
        self.assertGreater(len(found), 10)

    def test_never(self):
        for here, away, rate, share in [
                (1, 1, 0, Ratio(2, 3)), (0, 1, Ratio(1, 2), Ratio(2, 3)), (0, Ratio(1, BIG), Ratio(BIG - 1, BIG), 1),
                (10 ** 59, Ratio(1, BIG), Ratio(99, 100), 1), (0, 1, 0, 1), (1, 1, 0, 1)]:
            self.assertIsNone(rounds_until(here, away, rate, share))

    def test_all_leaks_at_once(self):
        for here, share in product([0, 1, Ratio(1, BIG)], [1, Ratio(2, 3), Ratio(BIG + 1, 2 * BIG)]):
            self.assertEqual(rounds_until(here, BIG, 1, share), 1)
            self.assertEqual(rounds_until(here, 0, 1, share), 0)
            self.assertEqual(rounds_until(here, 0, 0, share), 0)

    def test_just_200_rounds_and_more(self):
        # With the share 2/3, what is away has to come down to a half of what is here.
        for rate in [Ratio(1, 2), Ratio(1, 100), Ratio(BIG - 1, BIG), Ratio(1, 3)]:
            kept = fraction(Ratio(1) - rate)
            for rounds in [0, 1, 7, 199, 200]:
                away = 1 / (2 * kept ** rounds)
                self.assertEqual(rounds_until(1, number(away), rate, Ratio(2, 3)), rounds)
                more = number(away * (1 + TINY))
                if rounds < 200:
                    self.assertEqual(rounds_until(1, more, rate, Ratio(2, 3)), rounds + 1)
                else:
                    with self.assertRaises(NoWay):
                        rounds_until(1, more, rate, Ratio(2, 3))
        for here, away, rate, share in [(1, 1, Ratio(1, 10 ** 9), Ratio(2, 3)), (1, BIG, Ratio(1, 4), Ratio(3, 4)),
                                        (Ratio(1, BIG), BIG, Ratio(1, 2), Ratio(BIG - 1, BIG))]:
            with self.assertRaises(NoWay):
                rounds_until(here, away, rate, share)

    def test_numbers_of_60_digits(self):
        here, away = Ratio(10 ** 60 - 1, 10 ** 60 - 7), Ratio(10 ** 60 - 3, 7 * 10 ** 59 + 7)
        rate, share = Ratio(10 ** 58 + 1, 10 ** 60 - 1), Ratio(10 ** 60 - 7, 10 ** 60 - 3)
        with self.assertRaises(NoWay):
            rounds_until(here, away, rate, share)
        told = rounds_until(here, away, rate, Ratio(2, 3))
        self.assertEqual(told, first_round(*map(fraction, [here, away, rate, Ratio(2, 3)])))
        self.assertIs(enough(here, leaked(away, rate, told - 1), Ratio(2, 3)), False)
        self.assertIs(enough(here, leaked(away, rate, told), Ratio(2, 3)), True)
        self.assertEqual(both_final(here, away, 0, 0, rate, Ratio(2, 3))[0], told)

    def test_the_round_before_is_not_enough(self):
        random = Random("before")
        for _ in range(60):
            here, away = [Fraction(random.randrange(1, 40), random.randrange(1, 9)) for _ in range(2)]
            rate, share = Fraction(random.randrange(20, 99), 100), random.choice(model.SHARES[:4])
            told = rounds_until(*[number(value) for value in [here, away, rate, share]])
            self.assertTrue(is_enough(here, away * (1 - rate) ** told, share))
            if told:
                self.assertFalse(is_enough(here, away * (1 - rate) ** (told - 1), share))


class BothBranches(Checks):
    """[38]: two branches that leak at the same time."""

    def test_random_weights(self):
        random, found = Random("both"), set()
        for _ in range(300):
            weights = [random.choice(WEIGHTS) for _ in range(4)]
            rate, share = random.choice(RATES), random.choice(model.SHARES)
            one, other, both, none = weights
            sides = [(one + both, other + none), (other + both, one + none)]
            expected = tuple(first_round(*side, rate, share, 201) for side in sides)
            late = [told is None and rate > 0 and side[0] > 0 and share < 1 for told, side in zip(expected, sides)]
            arguments = [number(value) for value in [*weights, rate, share]]
            if any(late):
                with self.assertRaises(NoWay):
                    both_final(*arguments)
                continue
            told = both_final(*arguments)
            self.assertTrue(same(told, expected) and all(same(*pair) for pair in zip(told, expected)))
            found.add((told[0] is None, told[1] is None, told[0] == told[1]))
        self.assertGreaterEqual(len(found), 5)

    def test_some(self):
        half, share = Ratio(1, 2), Ratio(2, 3)
        for weights, rate, expected in [
                ((1, 1, 0, 0), half, (1, 1)), ((2, 1, 0, 0), half, (0, 2)), ((1, 0, 0, 0), half, (0, None)),
                ((0, 1, 0, 0), half, (None, 0)), ((0, 0, 0, 1), half, (None, None)), ((0, 0, 0, 0), half, (0, 0)),
                ((0, 0, 1, 0), half, (0, 0)), ((0, 0, 1, 1), half, (1, 1)), ((1, 1, 0, 0), 0, (None, None)),
                ((1, 1, 0, 0), 1, (1, 1)), ((1, 1, 1, 1), half, (1, 1)), ((2, 1, 0, 1), half, (1, 3)),
                ((1, 2, 0, 1), half, (3, 1))]:
            self.assertEqual(both_final(*weights, rate, share), expected, weights)

    def test_one_that_would_take_too_long(self):
        for weights in [(1, BIG, 0, 0), (BIG, 1, 0, 0), (1, 1, 0, BIG)]:
            with self.assertRaises(NoWay):
                both_final(*weights, Ratio(1, 4), Ratio(2, 3))


class LeastHere(Checks):
    """[39]: the least part that must vote, and whether a part holds out."""

    def test_least_here(self):
        for whole, rate, share, rounds in product(WEIGHTS, RATES, model.SHARES, [0, 1, 2, 5]):
            told = least_here(number(whole), number(rate), number(share), rounds)
            self.assertIs(told.__class__, Ratio)
            here, left = fraction(told), (1 - rate) ** rounds
            self.assertTrue(0 <= here <= whole)
            self.assertTrue(is_enough(here, (whole - here) * left, share))
            if here:
                less = here - TINY * here
                self.assertFalse(is_enough(less, (whole - less) * left, share))

    def test_nothing_left_of_the_rest(self):
        for share in [1, Ratio(1), Ratio(2, 3), Ratio(BIG - 1, BIG)]:
            self.assertEqual(least_here(7, 1, share, 1), 0)
            self.assertEqual(least_here(7, Ratio(1), share, 200), 0)
            self.assertEqual(least_here(0, Ratio(1, 2), share, 3), 0)
            self.assertEqual(least_here(7, 1, share, 0), Ratio(7) * share)
        self.assertEqual(least_here(7, Ratio(1, 2), 1, 200), 7)

    def test_holds_out(self):
        found = {True: 0, False: 0}
        for whole, rate, share, rounds in product(WEIGHTS, RATES, model.SHARES, [0, 1, 2, 5]):
            least = fraction(least_here(number(whole), number(rate), number(share), rounds))
            for here in [0, whole, whole / 2, least, least - least * TINY, min(whole, least + least * TINY)]:
                left = [(whole - here) * (1 - rate) ** count for count in range(rounds + 1)]
                expected = not any(is_enough(here, away, share) for away in left)
                told = holds_out(number(whole), number(rate), number(share), rounds, number(here))
                self.assertIs(told, expected)
                found[told] += 1
        self.assertGreater(min(found.values()), 500)

    def test_at_just_below_and_just_above_the_least_part_in_each_round(self):
        for rounds in range(12):
            least = fraction(least_here(3, Ratio(1, 2), Ratio(2, 3), rounds))
            for here, expected in [(least, False), (least + TINY, False), (least - TINY, True), (0, True)]:
                self.assertIs(holds_out(3, Ratio(1, 2), Ratio(2, 3), rounds, number(here)), expected)
        for rounds in [199, 200]:
            least = least_here(BIG, Ratio(1, 3), Ratio(BIG + 1, 2 * BIG), rounds)
            self.assertIs(holds_out(BIG, Ratio(1, 3), Ratio(BIG + 1, 2 * BIG), rounds, least), False)


class Errors(Checks):
    """[37], [38], [39]: BadWeight, BadRate, BadShare, BadCount, in this order."""

    # The functions with good arguments, and what each argument is.
    CALLS = [
        (leaked, [1, Ratio(1, 2), 3], "wrc"), (enough, [1, 1, Ratio(2, 3)], "wws"),
        (rounds_until, [1, 1, Ratio(1, 2), Ratio(2, 3)], "wwrs"),
        (both_final, [1, 1, 0, 0, Ratio(1, 2), Ratio(2, 3)], "wwwwrs"),
        (least_here, [1, Ratio(1, 2), Ratio(2, 3), 3], "wrsc"),
        (holds_out, [2, Ratio(1, 2), Ratio(2, 3), 3, 1], "wrsch")]
    WRONG = {"w": (BadWeight, NO_AMOUNTS), "r": (BadRate, NO_RATES), "s": (BadShare, NO_SHARES),
             "c": (BadCount, NO_COUNTS), "h": (BadWeight, NO_AMOUNTS + [3, Ratio(2 * BIG + 1, BIG)])}

    def test_each_with_any_value(self):
        for function, good, kinds in self.CALLS:
            for at, kind in enumerate(kinds):
                error, values = self.WRONG[kind]
                for value in values:
                    self.assert_given(error, value, function, *good[:at], value, *good[at + 1:])
                    # It comes ahead of all that is checked later.
                    late = [self.WRONG[other][1][-1] for other in kinds[at + 1:]]
                    self.assert_given(error, value, function, *good[:at], value, *late)

    def test_true_and_false(self):
        for function, good, kinds in self.CALLS:
            for at, kind in enumerate(kinds):
                for value in [True, False]:
                    self.assert_given(self.WRONG[kind][0], value, function, *good[:at], value, *good[at + 1:])

    def test_they_come_ahead_of_an_answer(self):
        # Nothing would be worked out with these, but the arguments are checked all the same.
        self.assert_given(BadRate, 2, leaked, 0, 2, 0)
        self.assert_given(BadCount, 201, leaked, 0, 0, 201)
        self.assert_given(BadRate, 2, rounds_until, 1, 0, 2, 1)
        self.assert_given(BadShare, 0, rounds_until, 1, 0, 1, 0)
        self.assert_given(BadShare, 2, both_final, 0, 0, 0, 0, 0, 2)
        self.assert_given(BadCount, -1, least_here, 0, 1, 1, -1)
        self.assert_given(BadWeight, 1, holds_out, 0, 1, 1, 1, 1)

    def test_edges_that_are_right(self):
        self.assertEqual(leaked(0, 0, 0), 0)
        self.assertEqual(leaked(10 ** 60, 1, 200), 0)
        self.assertIs(holds_out(2, 1, 1, 0, 0), True)
        self.assertIs(holds_out(2, 1, 1, 0, 2), False)
        self.assertIs(holds_out(0, 0, 1, 200, 0), False)


if __name__ == "__main__":
    import unittest
    unittest.main()
