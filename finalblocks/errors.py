"""The errors of the package: each kind of failure has a class of its own."""


class BlockError(ValueError):
    """Every error of the package."""


class ByZero(BlockError):
    """A quotient by 0."""


class BadText(BlockError):
    """A string that is not the text of a Ratio."""


class NotFinal(BlockError):
    """A block that is not final, or two that are not both final and against one another."""


class NoWay(BlockError):
    """What was asked for does not come about."""


class UnlikeTrees(BlockError):
    """Two ballots that do not fit together, or of which one is no view of the other."""


class NothingToUndo(BlockError):
    """A house without a step to take back."""


class NothingToRedo(BlockError):
    """A house without a step to do again."""


class BadNumber(BlockError):
    """A value that is not a number."""

    def __init__(self, given):
        self.given = given


class BadName(BlockError):
    """A value that is not a name."""

    def __init__(self, given):
        self.given = given


class BadParent(BlockError):
    """A block whose parent is wrong, or such a parent."""

    def __init__(self, given):
        self.given = given


class BadWeight(BlockError):
    """A value that is not a weight."""

    def __init__(self, given):
        self.given = given


class BadShare(BlockError):
    """A value that is not a share."""

    def __init__(self, given):
        self.given = given


class BadVote(BlockError):
    """A value that is not a vote."""

    def __init__(self, given):
        self.given = given


class BadRate(BlockError):
    """A value that is not a rate."""

    def __init__(self, given):
        self.given = given


class BadCount(BlockError):
    """A value that is not a number of rounds."""

    def __init__(self, given):
        self.given = given


class BadChoice(BlockError):
    """A voter, or a choice of a voter, that may not stand there."""

    def __init__(self, given):
        self.given = given


class BadPaper(BlockError):
    """A value that is not a plan."""

    def __init__(self, given):
        self.given = given


class NoBlock(BlockError):
    """A value that is no block."""

    def __init__(self, given):
        self.given = given


class NoVoter(BlockError):
    """A value that is no voter."""

    def __init__(self, given):
        self.given = given


class InUse(BlockError):
    """A name that a block has already."""

    def __init__(self, given):
        self.given = given


class BadLine(BlockError):
    """A line, by its number counted from 1, that cannot stand where it stands."""

    def __init__(self, line):
        self.line = line
