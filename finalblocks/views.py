"""What parts of the votes show: views of a ballot, and two ballots together."""

from finalblocks.errors import BadVote, UnlikeTrees
from finalblocks.standing import final, least_support, links
from finalblocks.trees import Tree, ascending_rows


def is_view(view, ballot):
    """Whether a ballot is a view of another one."""
    blocks = ballot.tree().blocks()
    votes = ballot.votes()
    return (_fit_together(view, ballot) and all([block in blocks for block in view.tree().blocks()])
            and all([vote in votes for vote in view.votes()]))


def together(one, other):
    """The ballot with all blocks and all votes of two ballots."""
    _check_fit(one, other)
    tree = Tree({**_parents(one), **_parents(other)})
    return one.remade(tree, [*one.votes(), *other.votes()])


def common(one, other):
    """The ballot with the blocks and votes that two ballots both have."""
    _check_fit(one, other)
    blocks = other.tree().blocks()
    votes = other.votes()
    tree = Tree({block: parent for block, parent in _parents(one).items() if block in blocks})
    return one.remade(tree, [vote for vote in one.votes() if vote in votes])


def parted(one, other):
    """The ascending list of the tuples of a final block of each of two ballots that are against one another."""
    tree = together(one, other).tree()
    others = final(other)
    return ascending_rows([(left, right) for left in final(one) for right in others if tree.against(left, right)])


def missing(view, ballot):
    """The ascending list of the votes of a ballot that a view of it lacks."""
    _check_view(view, ballot)
    votes = view.votes()
    return [vote for vote in ballot.votes() if vote not in votes]


def view_with(view, ballot, votes):
    """The view with some more votes of the ballot, and with the blocks that they need."""
    _check_view(view, ballot)
    known = ballot.votes()
    for vote in votes:
        if vote not in known:
            raise BadVote(vote)
    tree = ballot.tree()
    blocks = [block for vote in votes for block in tree.branch(vote[2])]
    parents = {**_parents(view), **{block: tree.parent(block) for block in blocks}}
    return view.remade(Tree(parents), [*view.votes(), *votes])


def needed(view, ballot, block):
    """As few votes as possible that the view lacks and with which a block is final there, None if that can't be."""
    _check_view(view, ballot)
    tree = ballot.tree()
    tree.check_block(block)
    if block == tree.root():
        return []
    lacking = {link: _votes_lacking(view, ballot, link) for link in links(ballot)}
    shown = _fewest_votes(tree, lacking).get(block)
    last = _fewest([votes for (source, target), votes in lacking.items()
                    if source == block and tree.parent(target) == block])
    if shown is None or last is None:
        return None
    return ascending_rows([*shown, *last])


def _fit_together(one, other):
    """Whether two ballots fit together."""
    if one.voters() != other.voters() or one.share() != other.share() or one.tree().root() != other.tree().root():
        return False
    if any([one.weight(voter) != other.weight(voter) for voter in one.voters()]):
        return False
    parents = _parents(other)
    return all([parents.get(block, parent) == parent for block, parent in _parents(one).items()])


def _check_fit(one, other):
    """Raises UnlikeTrees unless two ballots fit together."""
    if not _fit_together(one, other):
        raise UnlikeTrees()


def _check_view(view, ballot):
    """Raises UnlikeTrees unless the first ballot is a view of the second one."""
    if not is_view(view, ballot):
        raise UnlikeTrees()


def _parents(ballot):
    """The dict from the blocks of a ballot to their parents."""
    tree = ballot.tree()
    return {block: tree.parent(block) for block in tree.blocks()}


def _votes_lacking(view, ballot, link):
    """As few votes for a supported link as possible with which it is supported in a view."""
    known = view.votes()
    least = least_support(view)
    rest = [vote for vote in ballot.votes() if vote[1:] == link]
    weight = view.weight_of([vote[0] for vote in rest if vote in known])
    rest = [vote for vote in rest if vote not in known]
    chosen = []
    # With the heaviest voters first it takes the fewest of them.
    while weight < least:
        vote = _heaviest(view, rest)
        chosen.append(vote)
        rest.remove(vote)
        weight = weight + view.weight(vote[0])
    return chosen


def _heaviest(ballot, votes):
    """One of some votes whose voter has the most weight."""
    best = votes[0]
    for vote in votes[1:]:
        if ballot.weight(best[0]) < ballot.weight(vote[0]):
            best = vote
    return best


def _fewest_votes(tree, lacking):
    """The dict from each justified block to the fewest votes with which it is justified in a view."""
    found = {tree.root(): []}
    # A source is lower than its target, so what leads to it is known when its turn comes.
    for block in _from_below(tree):
        best = _fewest([[*found[source], *votes] for (source, target), votes in lacking.items()
                        if target == block and source in found])
        if best is not None:
            found[block] = best
    return found


def _from_below(tree):
    """The blocks of a tree without the root, each behind its parent."""
    reached = tree.children(tree.root())
    level = reached
    while level:
        level = [child for block in level for child in tree.children(block)]
        reached = reached + level
    return reached


def _fewest(lists):
    """The first of the shortest ones of some lists, None if there is no list."""
    best = None
    for votes in lists:
        if best is None or len(votes) < len(best):
            best = votes
    return best
