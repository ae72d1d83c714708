"""Whether voters who keep the rules can go on, so that a new block is final."""

from finalblocks.ballots import guilty
from finalblocks.errors import BadChoice
from finalblocks.places import Ground, Steps, new_heights
from finalblocks.standing import final
from finalblocks.worth import ballot_after, check_voters


def going_on(ballot, voters):
    """A plan by which some voters go on, None if there is none."""
    _check_keepers(ballot, voters)
    return _steps_of(ballot, voters).plan()


def is_going_on(ballot, voters, value):
    """Whether some voters go on by any value."""
    _check_keepers(ballot, voters)
    later = ballot_after(ballot, value)
    if later is None or not all([vote[0] in voters for vote in value[1]]):
        return False
    known = final(ballot)
    if all([block in known for block in final(later)]):
        return False
    return not any([voter in voters for voter in guilty(later)])


def bar(ballot, voters):
    """A bar, which shows that some voters cannot go on; None if there is none."""
    _check_keepers(ballot, voters)
    return _steps_of(ballot, voters).closed()


def is_bar(ballot, voters, value):
    """Whether any value is a bar for some voters."""
    _check_keepers(ballot, voters)
    return _steps_of(ballot, voters).is_closed(value)


def _check_keepers(ballot, voters):
    """Raises NoVoter for the first item that is no voter, then BadChoice for the first one that is guilty already."""
    check_voters(ballot, voters)
    known = guilty(ballot)
    for voter in voters:
        if voter in known:
            raise BadChoice(voter)


def _steps_of(ballot, voters):
    """The steps that can be made if some voters break no rule, and the others do not vote any more."""
    tree = ballot.tree()
    known = final(ballot)
    ends = [block for block in tree.blocks() if block not in known]
    return Steps(Ground(ballot, tree.blocks(), new_heights(tree), ends), [], voters)
