"""A house, which keeps a tree and votes over time, and all that was done step by step."""

from finalblocks.ballots import Ballot, check_share, check_weights, guilty
from finalblocks.errors import (
    BadLine, BadName, BadParent, BadVote, BlockError, InUse, NoVoter, NothingToRedo, NothingToUndo)
from finalblocks.standing import final, justified
from finalblocks.trees import Tree, ascending, is_name


class House:
    """Voters with their weights, a share and a root, and the steps by which blocks and votes were handed in.

    A step is a tuple of the words of its line in the text. All else is worked out from the steps, so that it does not
    depend on their order.
    """

    def __init__(self, weights, share, root):
        check_weights(weights)
        check_share(share)
        if not is_name(root):
            raise BadName(root)
        self._weights = dict(weights)
        self._share = share
        self._root = root
        self._steps = []
        self._undone = []
        # The news of the first steps, a list for each, as far as they have been asked for.
        self._told = []

    def block(self, block, parent):
        """Hands in a block."""
        if not is_name(block):
            raise BadName(block)
        if not is_name(parent) or parent == block:
            raise BadParent(parent)
        if block == self._root or block in _parents_in(self._steps):
            raise InUse(block)
        self._do(("block", block, parent))

    def vote(self, voter, source, target):
        """Hands in a vote."""
        # What is no string may not be fit for a key, and must not be looked up.
        if not isinstance(voter, str) or voter not in self._weights:
            raise NoVoter(voter)
        vote = (voter, source, target)
        if not is_name(source) or not is_name(target) or source == target:
            raise BadVote(vote)
        tree = _tree_in(self._root, self._steps)
        if not _waits(tree, vote) and not tree.leads(source, target):
            raise BadVote(vote)
        self._do(("vote", voter, source, target))

    def ballot(self):
        """The ballot of the blocks in the tree and of the votes that do not wait."""
        return self._ballot_after(len(self._steps))

    def waiting(self):
        """The ascending list of the blocks that wait, and the number of the votes that do."""
        tree = _tree_in(self._root, self._steps)
        known = tree.blocks()
        blocks = [block for block in _parents_in(self._steps) if block not in known]
        return (ascending(blocks), len([vote for vote in _votes_in(self._steps) if _waits(tree, vote)]))

    def __len__(self):
        return len(self._steps)

    def news(self):
        """The ascending list of what became so by the steps: tuples of the number of the step, a kind and a name."""
        told = list(self._told)
        known = [row[1:] for rows in told for row in rows]
        for number in range(len(told) + 1, len(self._steps) + 1):
            fresh = [fact for fact in self._facts_after(number) if fact not in known]
            told.append([(number, *fact) for fact in fresh])
            known.extend(fresh)
        self._told = told
        return [row for rows in told for row in rows]

    def undo(self):
        """Takes the last step back."""
        if not self._steps:
            raise NothingToUndo()
        self._undone = [*self._undone, self._steps[-1]]
        self._steps = self._steps[:-1]
        self._told = self._told[:len(self._steps)]

    def redo(self):
        """Does the last step again that was taken back."""
        if not self._undone:
            raise NothingToRedo()
        self._steps = [*self._steps, self._undone[-1]]
        self._undone = self._undone[:-1]

    def tried(self, act):
        """What a function returns that is called with the house; afterwards the house is as it was before."""
        # No list is changed in place, so it is enough to keep these.
        steps = self._steps
        undone = self._undone
        told = self._told
        try:
            return act(self)
        finally:
            self._steps = steps
            self._undone = undone
            self._told = told

    def text(self):
        """A line for each step."""
        return "\n".join([" ".join(step) for step in self._steps])

    def take(self, text):
        """Does the steps of a text, all or none."""
        steps = self._steps
        undone = self._undone
        lines = text.split("\n") if text != "" else []
        for number, line in enumerate(lines, start=1):
            if not self._is_done(line.split(" ")):
                self._steps = steps
                self._undone = undone
                raise BadLine(number)

    def _is_done(self, words):
        """Does the step of which a line tells, and tells whether it is one that can be done."""
        try:
            if words[0] == "block" and len(words) == 3:
                self.block(words[1], words[2])
                return True
            if words[0] == "vote" and len(words) == 4:
                self.vote(words[1], words[2], words[3])
                return True
        except BlockError:
            return False
        return False

    def _do(self, step):
        self._steps = [*self._steps, step]
        self._undone = []

    def _ballot_after(self, count):
        """The ballot after so many steps."""
        steps = self._steps[:count]
        tree = _tree_in(self._root, steps)
        # What waited and then turned out to be no vote is dropped.
        votes = [vote for vote in _votes_in(steps) if not _waits(tree, vote) and tree.leads(vote[1], vote[2])]
        return Ballot(tree, self._weights, self._share, votes)

    def _facts_after(self, count):
        """The ascending list of the tuples of a kind and a name that hold after so many steps, but not before all."""
        ballot = self._ballot_after(count)
        facts = [("final", block) for block in final(ballot) if block != self._root]
        facts.extend([("guilty", voter) for voter in guilty(ballot)])
        return facts + [("justified", block) for block in justified(ballot) if block != self._root]


def _parents_in(steps):
    """The dict from the blocks that were handed in to their parents."""
    return {step[1]: step[2] for step in steps if step[0] == "block"}


def _votes_in(steps):
    """The votes that were handed in, each once."""
    return list({step[1:]: True for step in steps if step[0] == "vote"})


def _tree_in(root, steps):
    """The tree of the blocks that come from the root."""
    handed = _parents_in(steps)
    placed = {root: ""}
    fresh = {root: ""}
    while fresh:
        fresh = {block: parent for block, parent in handed.items() if parent in fresh}
        placed = {**placed, **fresh}
    return Tree(placed)


def _waits(tree, vote):
    """Whether one of the blocks of a vote is not in the tree."""
    known = tree.blocks()
    return vote[1] not in known or vote[2] not in known
