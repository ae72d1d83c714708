"""Trees of blocks: what leads to what, what is against what, and the texts of trees."""

from finalblocks.errors import BadLine, BadName, BadParent, InUse, NoBlock


class Tree:
    """Blocks of which one is the root, and each other one has a parent; it never changes."""

    def __init__(self, parents):
        check_names(parents)
        _check_parents(parents)
        self._parents = dict(parents)
        self._children = _children_in(self._parents)
        self._root = [block for block, parent in self._parents.items() if parent == ""][0]

    @classmethod
    def read(cls, text):
        """The tree with a text."""
        return cls(_parents_in(text))

    def text(self):
        """A line for each block: the root first, the others by their heights, and then by their names."""
        lines = [self._root]
        level = self.children(self._root)
        while level:
            lines.extend([f"{block} {self._parents[block]}" for block in level])
            level = ascending([child for block in level for child in self._children[block]])
        return "\n".join(lines)

    def root(self):
        """The block without a parent."""
        return self._root

    def blocks(self):
        """The ascending list of the blocks."""
        return ascending(self._parents)

    def __len__(self):
        return len(self._parents)

    def __eq__(self, other):
        return isinstance(other, Tree) and self._parents == other._parents

    def parent(self, block):
        """The parent of a block, an empty string for the root."""
        self.check_block(block)
        return self._parents[block]

    def height(self, block):
        """How often one goes from block to child to come from the root to a block."""
        return len(self.branch(block)) - 1

    def children(self, block):
        """The ascending list of the children of a block."""
        self.check_block(block)
        return list(self._children[block])

    def branch(self, block):
        """The list of the blocks from the root to a block."""
        self.check_block(block)
        downwards = []
        here = block
        while here != "":
            downwards.append(here)
            here = self._parents[here]
        return downwards[::-1]

    def leads(self, one, other):
        """Whether a block leads to another one."""
        self.check_block(one)
        return one != other and one in self.branch(other)

    def against(self, one, other):
        """Whether two blocks are different, and neither leads to the other."""
        return self.meet(one, other) not in (one, other)

    def meet(self, one, other):
        """The highest block that is one of the two or leads to it, for both of them."""
        left = self.branch(one)
        right = self.branch(other)
        return [block for block in left if block in right][-1]

    def with_block(self, block, parent):
        """The tree with one more block."""
        if not is_name(block):
            raise BadName(block)
        if block in self._parents:
            raise InUse(block)
        self.check_block(parent)
        return Tree({**self._parents, block: parent})

    def below(self, block):
        """The ascending list of the blocks to which a block leads."""
        self.check_block(block)
        return [other for other in self.blocks() if self.leads(block, other)]

    def tops(self):
        """The ascending list of the blocks without children."""
        return [block for block in self.blocks() if not self._children[block]]

    def check_block(self, given):
        """Raises NoBlock for any value that is no block."""
        # What is no string may not be fit for a key, and must not be looked up.
        if not isinstance(given, str) or given not in self._parents:
            raise NoBlock(given)


def is_name(given):
    """Whether a value is a name: a string of 1 to 8 letters from a to z."""
    return isinstance(given, str) and len(given) <= 8 and given.isascii() and given.isalpha() and given.islower()


def check_names(given):
    """Raises BadName for the first key of a dict that is not a name."""
    for key in given:
        if not is_name(key):
            raise BadName(key)


def ascending(names):
    """The ascending list of some names."""
    # As Ratios have an order of their own, the language sorts only what plainly is a string.
    return sorted([str(name) for name in names])


def ascending_rows(rows):
    """The ascending list of some tuples of names."""
    # A space comes before all letters, so the lines have the order that their tuples have.
    return [tuple(line.split(" ")) for line in ascending([" ".join(row) for row in rows])]


def _check_parents(parents):
    rooted = False
    for block, parent in parents.items():
        if parent == "":
            if rooted:
                raise BadParent(block)
            rooted = True
        # A parent that is no other block is on no way to a root either.
        elif not _comes_to_root(parents, block):
            raise BadParent(block)


def _comes_to_root(parents, block):
    """Whether one comes from a block to a root by going from block to parent."""
    here = block
    # Who has gone on as often as there are blocks goes round in a ring.
    for _ in range(len(parents)):
        parent = parents[here]
        if parent == "":
            return True
        if not isinstance(parent, str) or parent not in parents:
            return False
        here = parent
    return False


def _children_in(parents):
    """The dict from each block to the ascending list of its children."""
    children = {block: [] for block in parents}
    for block in ascending(parents):
        if parents[block] != "":
            children[parents[block]].append(block)
    return children


def _parents_in(text):
    """The dict from blocks to parents of which a text tells."""
    parents = {}
    heights = {}
    last = (0, "")
    for number, line in enumerate(text.split("\n"), start=1):
        block, space, parent = line.partition(" ")
        # Only the first line tells no parent; each parent stands in a line above, as it is lower.
        if not is_name(block) or block in parents or (space == "") != (number == 1):
            raise BadLine(number)
        if number > 1 and parent not in parents:
            raise BadLine(number)
        heights[block] = heights[parent] + 1 if number > 1 else 0
        if (heights[block], block) <= last:
            raise BadLine(number)
        last = (heights[block], block)
        parents[block] = parent
    return parents
