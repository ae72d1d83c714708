"""Ballots: a tree, voters with their weights, a share and votes; and the rules that votes may break."""

from finalblocks.errors import BadShare, BadVote, BadWeight, NoBlock, NoVoter
from finalblocks.ratios import Ratio, as_ratio, is_number, total
from finalblocks.trees import ascending, ascending_rows, check_names


class Ballot:
    """A tree, voters with their weights, a share, and votes; it never changes."""

    def __init__(self, tree, weights, share, votes=()):
        check_weights(weights)
        check_share(share)
        _check_votes(tree, list(weights), votes)
        self._tree = tree
        self._weights = {voter: as_ratio(weight) for voter, weight in weights.items()}
        self._share = as_ratio(share)
        # As keys of a dict they are kept once each.
        self._votes = ascending_rows({vote: True for vote in votes})

    def tree(self):
        """The tree."""
        return self._tree

    def share(self):
        """The share of all weight that supports a link."""
        return self._share

    def voters(self):
        """The ascending list of the voters."""
        return ascending(self._weights)

    def weight(self, voter):
        """The weight of a voter."""
        self.check_voter(voter)
        return self._weights[voter]

    def whole(self):
        """The weight of all voters."""
        return total(list(self._weights.values()))

    def weight_of(self, voters):
        """The weight of the voters of a list, each of whom counts once."""
        for voter in voters:
            self.check_voter(voter)
        return total([weight for voter, weight in self._weights.items() if voter in voters])

    def votes(self):
        """The ascending list of the votes."""
        return list(self._votes)

    def votes_of(self, voter):
        """The ascending list of the votes of a voter."""
        self.check_voter(voter)
        return [vote for vote in self._votes if vote[0] == voter]

    def with_vote(self, voter, source, target):
        """The ballot with one more vote."""
        return self.remade(self._tree, [*self._votes, (voter, source, target)])

    def with_block(self, block, parent):
        """The ballot with one more block."""
        return self.remade(self._tree.with_block(block, parent), self._votes)

    def remade(self, tree, votes):
        """The ballot of the same voters with another tree and other votes."""
        return Ballot(tree, self._weights, self._share, votes)

    def __eq__(self, other):
        return (isinstance(other, Ballot) and self._tree == other._tree and self._weights == other._weights
                and self._share == other._share and self._votes == other._votes)

    def check_voter(self, given):
        """Raises NoVoter for any value that is no voter."""
        # What is no string may not be fit for a key, and must not be looked up.
        if not isinstance(given, str) or given not in self._weights:
            raise NoVoter(given)


def check_weights(weights):
    """Raises BadName for the first key that is not a name, then BadWeight for the first value that is no weight."""
    check_names(weights)
    for weight in weights.values():
        if not is_number(weight) or as_ratio(weight) <= 0:
            raise BadWeight(weight)


def check_share(share):
    """Raises BadShare unless a value is a number above 1/2 and at most 1."""
    if not is_number(share) or as_ratio(share) <= Ratio(1, 2) or Ratio(1) < share:
        raise BadShare(share)


def broken(tree, one, other):
    """Which rule two votes break as votes of one voter: "twice", "around" or "none"."""
    for vote in (one, other):
        if not _has_link(tree, vote):
            raise BadVote(vote)
    # Taken as votes of one voter they are the same vote if they have the same link.
    if one[1:] == other[1:]:
        return "none"
    return broken_at(vote_heights(tree, one), vote_heights(tree, other))


def broken_at(left, right):
    """Which rule two different votes of one voter break whose sources and targets have these heights."""
    if left[1] == right[1]:
        return "twice"
    if _goes_around(left, right) or _goes_around(right, left):
        return "around"
    return "none"


def vote_heights(tree, vote):
    """The heights of the source and of the target of a vote."""
    return (tree.height(vote[1]), tree.height(vote[2]))


def evidence(ballot, voter):
    """Two votes of a voter that break a rule, the lesser one first; None if the voter is not guilty."""
    votes = ballot.votes_of(voter)
    # Each height is looked up once, not once for each pair of votes.
    heights = [vote_heights(ballot.tree(), vote) for vote in votes]
    for at, left in enumerate(heights):
        for later, right in enumerate(heights[at + 1:], start=at + 1):
            if broken_at(left, right) != "none":
                return (votes[at], votes[later])
    return None


def guilty(ballot):
    """The ascending list of the voters of whose votes two break a rule."""
    return [voter for voter in ballot.voters() if evidence(ballot, voter) is not None]


def can_vote(ballot, voter, source, target):
    """Whether a vote breaks no rule together with another vote of this voter."""
    vote = (voter, source, target)
    _check_votes(ballot.tree(), ballot.voters(), [vote])
    return all([broken(ballot.tree(), vote, other) == "none" for other in ballot.votes_of(voter)])


def lots(voters):
    """All lots of some voters, each a list in their order; a part of a lot comes ahead of it."""
    found = [[]]
    for voter in voters:
        found = found + [[*lot, voter] for lot in found]
    return found


def _check_votes(tree, voters, votes):
    for vote in votes:
        if not _has_link(tree, vote) or vote[0] not in voters:
            raise BadVote(vote)


def _has_link(tree, given):
    """Whether a value is a tuple of three values of which the last two are a source and a target."""
    if not isinstance(given, tuple) or len(given) != 3:
        return False
    try:
        return tree.leads(given[1], given[2])
    except NoBlock:
        return False


def _goes_around(outer, inner):
    """Whether the first one of two pairs of heights begins lower and ends higher than the second one."""
    return outer[0] < inner[0] and inner[1] < outer[1]
