"""The head of the tree: which blocks the voters choose for it, where the way to it goes, and how firm that is."""

from finalblocks.ballots import check_weights, lots
from finalblocks.errors import BadChoice, BadWeight, NoWay
from finalblocks.ratios import as_ratio, is_amount, total
from finalblocks.trees import ascending


class Choices:
    """A tree, voters with their weights, and the blocks that some of them choose; it never changes."""

    def __init__(self, tree, weights, chosen):
        check_weights(weights)
        for voter, block in chosen.items():
            _check_choice(tree, weights, voter, block)
        self._tree = tree
        self._weights = {voter: as_ratio(weight) for voter, weight in weights.items()}
        self._chosen = dict(chosen)

    def tree(self):
        """The tree."""
        return self._tree

    def voters(self):
        """The ascending list of the voters."""
        return ascending(self._weights)

    def weight_of(self, voters):
        """The weight of different voters together."""
        return total([self._weights[voter] for voter in voters])

    def chosen(self):
        """The dict of the choices."""
        return dict(self._chosen)

    def backs(self, voter, block):
        """Whether the choice of a voter is a block or one to which it leads."""
        choice = self._chosen.get(voter)
        return choice is not None and (choice == block or self._tree.leads(block, choice))

    def load(self, block):
        """The weight of all voters whose choice is a block or one to which it leads."""
        self._tree.check_block(block)
        return self.weight_of([voter for voter in self._weights if self.backs(voter, block)])

    def way(self, start):
        """The blocks on the way to the head from a block."""
        self._tree.check_block(start)
        way = [start]
        children = self._tree.children(start)
        while children:
            best = children[0]
            for child in children[1:]:
                if self.load(best) < self.load(child):
                    best = child
            way.append(best)
            children = self._tree.children(best)
        return way

    def head(self, start):
        """The last block on the way to the head from a block."""
        return self.way(start)[-1]

    def moved(self, voter, block):
        """The choices after a voter has chosen a block."""
        _check_choice(self._tree, self._weights, voter, block)
        return Choices(self._tree, self._weights, {**self._chosen, voter: block})


def turners(choices, start, block):
    """The least weight of voters who have to turn so that the way from start does not come through a block, or None."""
    turned = turning(choices, start, block)
    return None if turned is None else choices.weight_of(list(turned))


def turning(choices, start, block):
    """The dict from such voters to blocks that they choose instead, None if there is none."""
    best = None
    for taken, rival in _forks(choices, start, block):
        lot = _least_lot(choices, taken, rival)
        if best is None or choices.weight_of(lot) < choices.weight_of(list(best)):
            best = {voter: rival for voter in lot}
    return best


def newcomers(choices, start, block):
    """The weight of new voters who turn the head away from a block, and whether it takes more; None if none can."""
    best = None
    for taken, rival in _forks(choices, start, block):
        gap = choices.load(taken) - choices.load(rival)
        more = taken < rival
        if best is None or gap < best[0] or (gap == best[0] and not more):
            best = (gap, more)
    return best


def stays(choices, start, block, weight):
    """Whether the way from start comes through a block whatever voters of at most a weight turn to."""
    if not is_amount(weight):
        raise BadWeight(weight)
    least = turners(choices, start, block)
    return least is None or as_ratio(weight) < least


def _check_choice(tree, weights, voter, block):
    """Raises BadChoice unless one of two values is a voter and the other one a block."""
    # What is no string may not be fit for a key, and must not be looked up.
    if not isinstance(voter, str) or voter not in weights or block not in tree.blocks():
        raise BadChoice((voter, block))


def _forks(choices, start, block):
    """The tuples of a child that is taken on the way from start to a block, and a child that could be instead."""
    tree = choices.tree()
    tree.check_block(start)
    tree.check_block(block)
    way = choices.way(start)
    if block not in way:
        raise NoWay()
    children = way[1:way.index(block) + 1]
    return [(taken, rival) for taken in children for rival in tree.children(tree.parent(taken)) if rival != taken]


def _least_lot(choices, taken, rival):
    """Voters with the least weight by whom a child is no longer taken if all of them turn to a rival."""
    gap = choices.load(taken) - choices.load(rival)
    gains = {voter: _gain(choices, voter, taken, rival) for voter in choices.voters()}
    best = None
    for lot in lots(choices.voters()):
        gained = total([gains[voter] for voter in lot])
        # Of equal loads that of the lesser name wins.
        enough = gap < gained or (gap == gained and rival < taken)
        if enough and (best is None or choices.weight_of(lot) < choices.weight_of(best)):
            best = lot
    return best


def _gain(choices, voter, taken, rival):
    """By how much a rival comes nearer to the child that is taken, or goes farther ahead, if a voter turns to it."""
    if choices.backs(voter, rival):
        return as_ratio(0)
    weight = choices.weight_of([voter])
    # What the child loses counts as well as what the rival wins.
    return weight + weight if choices.backs(voter, taken) else weight
