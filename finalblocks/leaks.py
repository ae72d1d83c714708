"""Weights of voters who do not vote, and which become less in each round."""

from finalblocks.ballots import check_share
from finalblocks.errors import BadCount, BadRate, BadWeight, NoWay
from finalblocks.ratios import Ratio, as_ratio, is_amount, is_whole, raised

MOST_ROUNDS = 200


def leaked(weight, rate, rounds):
    """What is left of a weight after so many rounds."""
    _check_amounts([weight])
    _check_rate(rate)
    _check_count(rounds)
    return as_ratio(weight) * raised(Ratio(1) - rate, rounds)


def enough(here, away, share):
    """Whether a weight is at least the share of itself and another one."""
    _check_amounts([here, away])
    check_share(share)
    return as_ratio(share) * (as_ratio(here) + away) <= here


def rounds_until(here, away, rate, share):
    """The least number of rounds after which there is enough, None if there never is."""
    _check_amounts([here, away])
    _check_rate(rate)
    check_share(share)
    if not _comes(here, away, rate, share):
        return None
    if not enough(here, leaked(away, rate, MOST_ROUNDS), share):
        raise NoWay()
    low = 0
    high = MOST_ROUNDS
    # Once there is enough it stays so, as what is away only becomes less: halve what is in question.
    while low < high:
        middle = (low + high) // 2
        if enough(here, leaked(away, rate, middle), share):
            high = middle
        else:
            low = middle + 1
    return low


def both_final(one, other, both, none, rate, share):
    """The least numbers of rounds after which there is enough on each of two branches, each None if it never comes."""
    _check_amounts([one, other, both, none])
    first = rounds_until(as_ratio(one) + both, as_ratio(other) + none, rate, share)
    second = rounds_until(as_ratio(other) + both, as_ratio(one) + none, rate, share)
    return (first, second)


def least_here(whole, rate, share, rounds):
    """The least part of a weight that must vote so that there is enough after so many rounds."""
    _check_amounts([whole])
    _check_rate(rate)
    check_share(share)
    _check_count(rounds)
    # With h here and the part f left of the rest, h is enough from q * (h + (whole - h) * f) on.
    needed = raised(Ratio(1) - rate, rounds) * share
    bottom = Ratio(1) - share + needed
    if bottom == 0:
        return Ratio(0)
    return (needed * whole).over(bottom)


def holds_out(whole, rate, share, rounds, here):
    """Whether there is not enough in any of the rounds up to a number, if a part of a weight votes."""
    _check_amounts([whole])
    _check_rate(rate)
    check_share(share)
    _check_count(rounds)
    if not is_amount(here) or as_ratio(whole) < here:
        raise BadWeight(here)
    # Enough in an earlier round would be enough in the last one, too.
    return not enough(here, leaked(as_ratio(whole) - here, rate, rounds), share)


def _comes(here, away, rate, share):
    """Whether there is enough after any number of rounds."""
    if enough(here, away, share) or as_ratio(rate) == 1:
        return True
    # Something is away, and never all of it leaks: then it takes something here, and a share that leaves room for both.
    return Ratio(0) < rate and Ratio(0) < here and as_ratio(share) < 1


def _check_amounts(weights):
    """Raises BadWeight for the first value of a list that is not a number that is at least 0."""
    for weight in weights:
        if not is_amount(weight):
            raise BadWeight(weight)


def _check_rate(rate):
    """Raises BadRate unless a value is a number from 0 to 1."""
    if not is_amount(rate) or Ratio(1) < rate:
        raise BadRate(rate)


def _check_count(rounds):
    """Raises BadCount unless a value is an integer from 0 to the most rounds."""
    if not is_whole(rounds) or rounds < 0 or MOST_ROUNDS < rounds:
        raise BadCount(rounds)
