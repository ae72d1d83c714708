"""Who is to blame if two final blocks are against one another, and what shows it."""

from finalblocks.ballots import broken
from finalblocks.errors import NotFinal
from finalblocks.standing import final, final_paper, links


def clashes(ballot):
    """The ascending list of the tuples of two final blocks that are against one another, the lesser name first."""
    blocks = final(ballot)
    tree = ballot.tree()
    return [(one, other) for at, one in enumerate(blocks) for other in blocks[at + 1:] if tree.against(one, other)]


def crossing(ballot, one, other):
    """Two supported links that break a rule as votes of one voter, for two final blocks against one another."""
    tree = ballot.tree()
    tree.check_block(one)
    tree.check_block(other)
    known = final(ballot)
    if one not in known or other not in known or not tree.against(one, other):
        raise NotFinal()
    # Two of these links always cross. Of the two blocks, take the one that is not higher than the other one, and on the
    # way to the other one the first link that does not end lower than it. If this link ends just as high, it crosses
    # the link to the lower block; if one higher, the link from the lower block to its child ("twice" both times); if
    # higher still, it goes around that link to the child, as it begins lower than the lower block.
    ways = _links_for(ballot, other)
    return [(left, right) for left in _links_for(ballot, one) for right in ways if _cross(tree, left, right)][0]


def is_crossing(ballot, value):
    """Whether any value is a crossing."""
    if not isinstance(value, tuple) or len(value) != 2:
        return False
    supported = links(ballot)
    # A value that is no link is not among them, whatever it is.
    if value[0] not in supported or value[1] not in supported:
        return False
    return _cross(ballot.tree(), value[0], value[1])


def blame(ballot, one, other):
    """The voters for both links of a crossing of two final blocks, each with the two votes that show the guilt."""
    left, right = crossing(ballot, one, other)
    pairs = {voter: ((voter, *left), (voter, *right)) for voter in ballot.voters()}
    return {voter: pair for voter, pair in pairs.items() if _shows_guilt(ballot, voter, pair)}


def is_blame(ballot, value):
    """Whether any value is a blame."""
    if not isinstance(value, dict):
        return False
    voters = ballot.voters()
    if not all([voter in voters and _shows_guilt(ballot, voter, pair) for voter, pair in value.items()]):
        return False
    return (ballot.share() * 2 - 1) * ballot.whole() <= ballot.weight_of(list(value))


def _links_for(ballot, block):
    """The supported links that make a block other than the root final."""
    shown, child = final_paper(ballot, block)
    return [*shown, (block, child)]


def _cross(tree, left, right):
    """Whether two links break a rule if they are taken as votes of one voter."""
    return broken(tree, ("", *left), ("", *right)) != "none"


def _shows_guilt(ballot, voter, given):
    """Whether a value is a tuple of two votes of a voter that break a rule."""
    if not isinstance(given, tuple) or len(given) != 2:
        return False
    votes = ballot.votes_of(voter)
    if given[0] not in votes or given[1] not in votes:
        return False
    return broken(ballot.tree(), given[0], given[1]) != "none"
