"""What a final block is worth: how much weight must break a rule before something against it is final."""

from finalblocks.ballots import guilty, lots
from finalblocks.errors import BadName, BadPaper, BadVote, InUse, NoBlock, NotFinal
from finalblocks.places import Ground, Steps, new_heights
from finalblocks.standing import final


def is_plan(ballot, value):
    """Whether any value is a plan."""
    return ballot_after(ballot, value) is not None


def after(ballot, plan):
    """The ballot with the blocks and votes of a plan."""
    later = ballot_after(ballot, plan)
    if later is None:
        raise BadPaper(plan)
    return later


def attack_by(ballot, block, voters):
    """An attack on a final block by some voters, None if there is none."""
    check_final(ballot, block)
    check_voters(ballot, voters)
    return _steps_of(_ground_against(ballot, block), voters).plan()


def is_attack(ballot, block, voters, value):
    """Whether any value is an attack on a final block by some voters."""
    check_final(ballot, block)
    check_voters(ballot, voters)
    later = ballot_after(ballot, value)
    if later is None or not any([later.tree().against(block, other) for other in final(later)]):
        return False
    known = guilty(ballot)
    return all([voter in voters or voter in known for voter in guilty(later)])


def wall(ballot, block, voters):
    """A wall, which shows that some voters have no attack on a final block; None if there is none."""
    check_final(ballot, block)
    check_voters(ballot, voters)
    return _steps_of(_ground_against(ballot, block), voters).closed()


def wall_holds(ballot, block, voters, value):
    """Whether any value is a wall for a final block and some voters."""
    check_final(ballot, block)
    check_voters(ballot, voters)
    return _steps_of(_ground_against(ballot, block), voters).is_closed(value)


def worth(ballot, block):
    """The least weight of the voters who are guilty after an attack on a final block, None for the root."""
    liars = _least_liars(ballot, block)
    return None if liars is None else ballot.weight_of(liars)


def least_attack(ballot, block):
    """The voters who are guilty after an attack that takes the least weight, and the attack; None for the root."""
    liars = _least_liars(ballot, block)
    # Whoever is not guilty after it could be left out of a lot of the least weight, so all of them are.
    return None if liars is None else (liars, attack_by(ballot, block, liars))


def ballot_after(ballot, value):
    """The ballot with the blocks and votes of a plan, None for any value that is none."""
    if not isinstance(value, tuple) or len(value) != 2:
        return None
    blocks, votes = value
    if not isinstance(blocks, (list, tuple)) or not isinstance(votes, (list, tuple)):
        return None
    tree = ballot.tree()
    try:
        for row in blocks:
            if not isinstance(row, tuple) or len(row) != 2:
                return None
            tree = tree.with_block(row[0], row[1])
        return ballot.remade(tree, [*ballot.votes(), *votes])
    except (BadName, BadVote, InUse, NoBlock):
        return None


def attacking_lots(ballot, block):
    """The lots of voters by whom there is an attack on a final block, but not by a part of them.

    Each is an ascending list, with those who are guilty already; there is none for the root.
    """
    check_final(ballot, block)
    ground = _ground_against(ballot, block)
    known = guilty(ballot)
    found = []
    for lot in lots([voter for voter in ballot.voters() if voter not in known]):
        liars = [voter for voter in ballot.voters() if voter in lot or voter in known]
        # Where a part of a lot is enough, so is the lot; and each part has come before.
        if not any([_is_part(other, liars) for other in found]) and _steps_of(ground, liars).path() is not None:
            found.append(liars)
    return found


def check_final(ballot, block):
    """Raises NoBlock unless a value is a block, and NotFinal unless it is final."""
    ballot.tree().check_block(block)
    if block not in final(ballot):
        raise NotFinal()


def check_voters(ballot, voters):
    """Raises NoVoter for the first item of a list that is no voter."""
    for voter in voters:
        ballot.check_voter(voter)


def _ground_against(ballot, block):
    """The places on the way to a block that would be against a block if it were final."""
    tree = ballot.tree()
    # Nothing is against the root.
    if block == tree.root():
        return Ground(ballot, [block], [], [])
    ends = [other for other in tree.blocks() if tree.against(other, block)]
    return Ground(ballot, [*tree.branch(block)[:-1], *ends], new_heights(tree), ends)


def _steps_of(ground, voters):
    """The steps that can be made if some voters and those who are guilty already vote as they like."""
    ballot = ground.ballot()
    return Steps(ground, [*voters, *guilty(ballot)], ballot.voters())


def _least_liars(ballot, block):
    """Of the lots of voters who have an attack on a final block one with the least weight, None if there is none."""
    best = None
    for liars in attacking_lots(ballot, block):
        if best is None or ballot.weight_of(liars) < ballot.weight_of(best):
            best = liars
    return best


def _is_part(lot, other):
    """Whether all voters of a lot are in another one."""
    return all([voter in other for voter in lot])
