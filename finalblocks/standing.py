"""What stands by the votes of a ballot: supported links, justified and final blocks, and papers that show it."""

from finalblocks.ratios import Ratio
from finalblocks.trees import ascending, ascending_rows


def least_support(ballot):
    """The least weight that supports a link."""
    return ballot.share() * ballot.whole()


def support(ballot, source, target):
    """The weight of the voters who have voted for a link."""
    ballot.tree().check_block(source)
    ballot.tree().check_block(target)
    return ballot.weight_of([vote[0] for vote in ballot.votes() if vote[1:] == (source, target)])


def is_supported(ballot, source, target):
    """Whether the voters for a link have at least the share of all weight."""
    return least_support(ballot) <= support(ballot, source, target)


def links(ballot):
    """The ascending list of all supported links."""
    least = least_support(ballot)
    # The votes are gone through once, not once for each link.
    weights = {}
    for voter, source, target in ballot.votes():
        link = (source, target)
        weights[link] = weights.get(link, Ratio(0)) + ballot.weight(voter)
    return ascending_rows([link for link, weight in weights.items() if least <= weight])


def justified(ballot):
    """The ascending list of the justified blocks."""
    return ascending(_papers(ballot))


def final(ballot):
    """The ascending list of the final blocks."""
    supported = links(ballot)
    return [block for block in justified(ballot) if _places_of_child(ballot, block, supported)]


def highest(ballot):
    """The highest justified block, the first one in ascending order of several."""
    tree = ballot.tree()
    best = tree.root()
    for block in justified(ballot):
        if tree.height(block) > tree.height(best):
            best = block
    return best


def paper(ballot, block):
    """A paper for a block, None if it is not justified."""
    ballot.tree().check_block(block)
    return _papers(ballot).get(block)


def is_paper(ballot, block, links):
    """Whether any value is a paper for a block."""
    ballot.tree().check_block(block)
    return isinstance(links, (list, tuple)) and _end_of(ballot, links) == block


def final_paper(ballot, block):
    """A paper for a final block together with one of its children that shows it, None if it is not final."""
    shown = paper(ballot, block)
    places = _places_of_child(ballot, block, links(ballot))
    if shown is None or not places:
        return None
    return (shown, places[0])


def is_final_paper(ballot, block, value):
    """Whether any value is such a tuple as final_paper returns."""
    ballot.tree().check_block(block)
    if not isinstance(value, tuple) or len(value) != 2:
        return False
    return is_paper(ballot, block, value[0]) and value[1] in _places_of_child(ballot, block, links(ballot))


def _papers(ballot):
    """The dict from each justified block to a paper for it."""
    supported = links(ballot)
    root = ballot.tree().root()
    found = {root: []}
    reached = [root]
    while reached:
        here = reached.pop()
        for source, target in supported:
            if source == here and target not in found:
                found[target] = [*found[here], (source, target)]
                reached.append(target)
    return found


def _end_of(ballot, chain):
    """The block to which supported links come from the root one after the other, None if they don't."""
    supported = links(ballot)
    here = ballot.tree().root()
    for link in chain:
        # A value that is no link is not among them, whatever it is.
        if link not in supported or link[0] != here:
            return None
        here = link[1]
    return here


def _places_of_child(ballot, block, supported):
    """What can stand in the place of the child in a final paper for a justified block."""
    tree = ballot.tree()
    # The root is final without any votes.
    if block == tree.root():
        return [""]
    return [child for child in tree.children(block) if (block, child) in supported]
