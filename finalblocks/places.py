"""The places to which votes can lead, blocks of a tree and new ones, and the steps between them."""

from finalblocks.ballots import broken_at, vote_heights
from finalblocks.ratios import is_whole
from finalblocks.standing import least_support
from finalblocks.trees import ascending

LETTERS = "abcdefghijklmnopqrstuvwxyz"


class Ground:
    """Some blocks of a ballot's tree, and new places, each told by its height, as it stands for any new block there.

    A block that is final in a new place, or in one of the blocks that are told as ends, is what the voters want.
    As very many lots of voters are tried, a lot is an integer here, with a bit for each voter.
    """

    def __init__(self, ballot, blocks, heights, ends):
        tree = ballot.tree()
        self._ballot = ballot
        self._blocks = list(blocks)
        self._heights = list(heights)
        self._ends = list(ends)
        self._rows = {block: tree.height(block) for block in blocks}
        self._above = {block: self._higher(tree.below(block), tree.height(block)) for block in blocks}
        self._voted = self._lots_by_link()
        self._kept = {voter: [vote_heights(tree, vote) for vote in ballot.votes_of(voter)]
                      for voter in ballot.voters()}
        self._free = {}
        self._enough = {}

    def ballot(self):
        """The ballot."""
        return self._ballot

    def height(self, place):
        """The height of a place."""
        return self._rows[place] if isinstance(place, str) else place

    def above(self, place):
        """The places to which a step leads from a place."""
        return self._above[place] if isinstance(place, str) else self._higher([], place)

    def is_end(self, place):
        """Whether a final block in a place is what the voters want."""
        return not isinstance(place, str) or place in self._ends

    def are_places(self, blocks, heights):
        """Whether the items of two lists, any values, are blocks and heights of new places."""
        if not all([block in self._blocks for block in blocks]):
            return False
        return all([is_whole(height) and height in self._heights for height in heights])

    def lot(self, voters):
        """The lot of some voters."""
        lot = 0
        for at, voter in enumerate(self._ballot.voters()):
            if voter in voters:
                lot = lot | (1 << at)
        return lot

    def names(self, lot):
        """The ascending list of the names of the voters of a lot."""
        return [voter for at, voter in enumerate(self._ballot.voters()) if (lot >> at) & 1 == 1]

    def is_enough(self, lot):
        """Whether the voters of a lot can support a link."""
        if lot not in self._enough:
            self._enough[lot] = least_support(self._ballot) <= self._ballot.weight_of(self.names(lot))
        return self._enough[lot]

    def voted(self, low, high):
        """The lot of the voters who have voted for the link from one place to another one."""
        return self._voted.get((low, high), 0)

    def free(self, low, high):
        """The lot of the voters of whose votes none breaks a rule together with a new vote between two places."""
        step = (self.height(low), self.height(high))
        if step not in self._free:
            self._free[step] = self.lot([voter for voter, rows in self._kept.items()
                                         if all([broken_at(row, step) == "none" for row in rows])])
        return self._free[step]

    def _higher(self, blocks, height):
        """Those of some blocks that are places, and the new places above a height."""
        return [block for block in blocks if block in self._blocks] + [new for new in self._heights if new > height]

    def _lots_by_link(self):
        """The dict from each link that somebody has voted for to the lot of those who have."""
        voters = {}
        for voter, source, target in self._ballot.votes():
            voters.setdefault((source, target), []).append(voter)
        return {link: self.lot(names) for link, names in voters.items()}


class Steps:
    """The steps that can be made on a ground: liars vote as they like, keepers only as long as they break no rule."""

    def __init__(self, ground, liars, keepers):
        self._ground = ground
        self._liars = ground.lot(liars)
        self._keepers = ground.lot(keepers)

    def plan(self):
        """A plan that makes the steps to what the voters want, None if they can't come there."""
        path = self.path()
        if path is None:
            return None
        names = _fresh_names(self._ground.ballot().tree(), self._ground.height(path[-1]))
        blocks = []
        votes = []
        here = path[0]
        for low, high in zip(path, path[1:]):
            there = high
            if not isinstance(high, str):
                chain = names[len(blocks):len(blocks) + high - self._ground.height(low)]
                blocks.extend(list(zip(chain, [here, *chain])))
                there = chain[-1]
            votes.extend([(voter, here, there) for voter in self._new_voters(low, high)])
            here = there
        return (blocks, votes)

    def path(self):
        """The places from the root to one where a final block is wanted, and to a child; None if none is reached."""
        before = self._reached()
        for here in before:
            for place in self._ground.above(here):
                if self._finishes(here, place) and self._can_be_made(here, place):
                    return [*_way(before, here), place]
        return None

    def closed(self):
        """The blocks and the heights that are reached if nothing is reached that is wanted, otherwise None."""
        if self.path() is not None:
            return None
        places = list(self._reached())
        blocks = [place for place in places if isinstance(place, str)]
        return (ascending(blocks), sorted([int(place) for place in places if not isinstance(place, str)]))

    def is_closed(self, value):
        """Whether any value is a tuple of blocks and heights from which no step leads out or to what is wanted."""
        if not isinstance(value, tuple) or len(value) != 2:
            return False
        blocks, heights = value
        if not isinstance(blocks, (list, tuple)) or not isinstance(heights, (list, tuple)):
            return False
        if not self._ground.are_places(blocks, heights) or self._root() not in blocks:
            return False
        inside = {place: True for place in [*blocks, *heights]}
        return not any([self._leads_out(inside, place) for place in inside])

    def _root(self):
        return self._ground.ballot().tree().root()

    def _can_be_made(self, low, high):
        lot = self._liars | self._ground.voted(low, high) | self._ground.free(low, high) & self._keepers
        return self._ground.is_enough(lot)

    def _finishes(self, low, high):
        """Whether a step from a justified block in one place to another place makes final what is wanted."""
        return self._ground.is_end(low) and self._ground.height(high) == self._ground.height(low) + 1

    def _new_voters(self, low, high):
        """The voters who vote to make a step, without those who have voted for it already."""
        ground = self._ground
        return ground.names((self._liars | ground.free(low, high) & self._keepers) & ~ground.voted(low, high))

    def _reached(self):
        """The dict from each place that is reached from the root to the place before it, the nearest places first."""
        before = {self._root(): None}
        waiting = [self._root()]
        while waiting:
            here = waiting.pop(0)
            for place in self._ground.above(here):
                if place not in before and self._can_be_made(here, place):
                    before[place] = here
                    waiting.append(place)
        return before

    def _leads_out(self, inside, low):
        """Whether a step that can be made leads from a place to one that is not inside, or to what is wanted."""
        return any([(high not in inside or self._finishes(low, high)) and self._can_be_made(low, high)
                    for high in self._ground.above(low)])


def new_heights(tree):
    """The heights of the new places: nothing that was voted holds anybody back between the last two of them."""
    return list(range(1, max([int(tree.height(block)) for block in tree.blocks()]) + 3))


def _way(before, place):
    """The places from the root to a place that is reached."""
    way = []
    here = place
    while here is not None:
        way.append(here)
        here = before[here]
    return way[::-1]


def _fresh_names(tree, count):
    """So many names that no block of a tree has."""
    taken = tree.blocks()
    words = [_word(number) for number in range(len(taken) + count)]
    return [word for word in words if word not in taken][:count]


def _word(number):
    """A name for each number from 0 on: its digits, if there were as many digits as letters."""
    word = ""
    rest = number
    while rest > 0 or word == "":
        word = LETTERS[rest % len(LETTERS)] + word
        rest = rest // len(LETTERS)
    return word
