"""Voters who leave, and what a final block is worth without them."""

from finalblocks.ballots import lots
from finalblocks.errors import BadChoice, BadCount, BadRate, BadWeight
from finalblocks.ratios import Ratio, as_ratio, is_amount, is_whole
from finalblocks.trees import ascending
from finalblocks.worth import attacking_lots, check_final, check_voters


def worth_without(ballot, block, left):
    """The least weight of the voters who are guilty after an attack and have not left, None for the root."""
    check_final(ballot, block)
    check_voters(ballot, left)
    return _least_weight(ballot, attacking_lots(ballot, block), left)


def queue_rounds(ballot, queue, rate):
    """The dict from each voter of a queue to the number of the first round at whose end the voter has left."""
    check_voters(ballot, queue)
    for at, voter in enumerate(queue):
        if voter in queue[:at]:
            raise BadChoice(voter)
    _check_rate(rate)
    return {voter: _rounds_for(ballot.weight_of(queue[:at + 1]), rate) for at, voter in enumerate(queue)}


def left_by(ballot, queue, rate, rounds):
    """The ascending list of the voters of a queue who have left at the end of so many rounds."""
    last = queue_rounds(ballot, queue, rate)
    if not is_whole(rounds) or rounds < 0:
        raise BadCount(rounds)
    return ascending([voter for voter in queue if last[voter] <= rounds])


def first_cheap(ballot, block, queue, rate, least):
    """The least number of rounds at whose end a block is worth less than a number without those who have left."""
    check_final(ballot, block)
    last = queue_rounds(ballot, queue, rate)
    _check_amount(least)
    attacking = attacking_lots(ballot, block)
    # Nothing changes but at the end of a round in which somebody has left.
    for rounds in [0, *[last[voter] for voter in queue]]:
        worth = _least_weight(ballot, attacking, [voter for voter in queue if last[voter] <= rounds])
        if worth is not None and worth < least:
            return rounds
    return None


def worst_without(ballot, block, weight):
    """The least worth of a block without voters who have together at most a weight, None for the root."""
    check_final(ballot, block)
    _check_amount(weight)
    reached = [worth for lightest, worth in worth_steps(ballot, block) if lightest <= weight]
    return reached[-1] if reached else None


def worth_steps(ballot, block):
    """The ascending list of the tuples of a weight and what the block is worth without it, up to the next weight."""
    attacking = attacking_lots(ballot, block)
    # Nothing attacks the root.
    if not attacking:
        return []
    rows = [(ballot.weight_of(left), _least_weight(ballot, attacking, left)) for left in lots(ballot.voters())]
    steps = []
    # Nobody has left in the first row, so there is none with less weight.
    row = rows[0]
    while row is not None:
        steps.append(row)
        row = _next_step(rows, row[1])
    return steps


def first_unsafe(ballot, block, rate, least):
    """The least number of rounds at whose end a block can be worth less than a number, whichever voters leave."""
    check_final(ballot, block)
    _check_rate(rate)
    _check_amount(least)
    for weight, worth in worth_steps(ballot, block):
        if worth < least:
            return _rounds_for(weight, rate)
    return None


def _least_weight(ballot, attacking, left):
    """The least weight of some lots without those who have left, None if there is no lot."""
    best = None
    for lot in attacking:
        weight = ballot.weight_of([voter for voter in lot if voter not in left])
        if best is None or weight < best:
            best = weight
    return best


def _next_step(rows, worth):
    """Of the rows with less than a worth one with the least weight, and of several the least worth; None if none is."""
    best = None
    for row in rows:
        if row[1] < worth and (best is None or row[0] < best[0] or (row[0] == best[0] and row[1] < best[1])):
            best = row
    return best


def _rounds_for(weight, rate):
    """The least number of rounds in which a weight can leave."""
    rounds = weight.over(rate)
    # The integer that is not below the quotient.
    return -(-rounds.top // rounds.bottom)


def _check_rate(rate):
    """Raises BadRate unless a value is a number above 0."""
    if not is_amount(rate) or as_ratio(rate) <= Ratio(0):
        raise BadRate(rate)


def _check_amount(given):
    """Raises BadWeight unless a value is a number that is at least 0."""
    if not is_amount(given):
        raise BadWeight(given)
