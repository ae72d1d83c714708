import inspect
from fractions import Fraction
from itertools import permutations, product

from finalblocks import ballots
from finalblocks.ballots import Ballot, broken, can_vote, evidence, guilty
from finalblocks.errors import BadName, BadShare, BadVote, BadWeight, InUse, NoBlock, NoVoter
from finalblocks.ratios import Ratio
from finalblocks.trees import Tree
from tests import model
from tests.checks import Checks
from tests.values import ANY_VALUES, FIT_FOR_KEYS, NO_NAMES, same

MANY = {"root": "", "a": "root", "b": "a", "c": "a", "d": "c"}
TREE = Tree(MANY)
WEIGHTS = {"bob": 1, "ann": 2}
TWO_THIRDS = Ratio(2, 3)
VOTES = [("ann", "root", "a"), ("bob", "root", "d"), ("bob", "a", "b"), ("ann", "a", "b")]
LINKS = model.all_links(MANY)
BIG = 10 ** 59
NO_WEIGHTS = [value for value in ANY_VALUES if not any(same(value, good) for good in [1, 10 ** 60, Ratio(1)])]
NO_WEIGHTS += [0, -1, -BIG, Ratio(0), Ratio(-1, 2), Ratio(-1, BIG), 0.5, Fraction(1, 2)]
SHARES = [1, Ratio(1), Ratio(2, 3), Ratio(3, 4), Ratio(BIG + 1, 2 * BIG), Ratio(BIG - 1, BIG)]
NO_SHARES = [value for value in ANY_VALUES if not any(same(value, good) for good in [1, Ratio(1)])]
NO_SHARES += [Ratio(1, 2), Ratio(BIG - 1, 2 * BIG), Ratio(BIG + 1, BIG), Ratio(3, 2), Ratio(0), Ratio(-2, 3), 0, 2, -1,
              0.75, "2/3", [Ratio(2, 3)], (2, 3)]
NO_BLOCKS = [value for value in ANY_VALUES if not same(value, "a")] + ["gone", "roo", "roots", "A"]
NO_VOTERS = ANY_VALUES + NO_NAMES + ["an", "anna", "root", "x"]
NO_VOTES = [
    *ANY_VALUES, "abc", "ann", ["ann", "root", "a"], [["ann", "root", "a"]], (("ann", "root", "a"),),
    ("ann", "root"), ("root", "a"), ("ann",), ("ann", "root", "a", "b"), ("ann", "root", "a", None), ("ann", "a", "a"),
    ("ann", "root", "root"), ("ann", "a", "root"), ("ann", "d", "a"), ("ann", "b", "c"), ("ann", "b", "d"),
    ("ann", ("root", "a")), {"ann": ("root", "a")}, {"ann": 1, "root": 2, "a": 3},
    *[(value, "root", "a") for value in NO_VOTERS],
    *[("ann", value, "a") for value in NO_BLOCKS], *[("ann", "root", value) for value in NO_BLOCKS],
    *[(value, value, value) for value in ANY_VALUES],
]


def ballot_of(votes=(), weights=None):
    return Ballot(TREE, weights or WEIGHTS, TWO_THIRDS, votes)


class Examples(Checks):
    """The examples of the interface."""

    def test_them(self):
        tree = Tree({"root": "", "a": "root", "b": "a", "c": "a", "d": "c"})
        votes = [("ann", "root", "a"), ("bob", "root", "d"), ("bob", "a", "b"), ("ann", "a", "b")]
        ballot = Ballot(tree, {"ann": 2, "bob": 1}, Ratio(2, 3), votes)
        self.assertEqual(
            (ballot.voters(), ballot.whole().text(), ballot.votes_of("ann"),
             ballot.weight_of(["bob", "ann", "bob"]).text()),
            (["ann", "bob"], "3", [("ann", "a", "b"), ("ann", "root", "a")], "3"))
        self.assert_given(BadVote, ("ann", "b", "b"), can_vote, ballot, "ann", "b", "b")
        self.assertEqual(
            (guilty(ballot), evidence(ballot, "bob"), broken(tree, ("x", "root", "b"), ("x", "a", "c")),
             can_vote(ballot, "ann", "root", "d")),
            (["bob"], (("bob", "a", "b"), ("bob", "root", "d")), "twice", False))

    def test_where_things_stand(self):
        for name in ["Ballot", "broken", "evidence", "guilty", "can_vote"]:
            self.assertEqual(getattr(ballots, name).__module__, "finalblocks.ballots", name)
        for name in ["__init__", "tree", "share", "weight", "whole", "weight_of", "voters", "votes", "votes_of",
                     "with_vote", "with_block", "__eq__"]:
            self.assertIn(name, Ballot.__dict__)

    def test_arguments_by_name(self):
        ballot = Ballot(tree=TREE, weights=WEIGHTS, share=TWO_THIRDS, votes=VOTES)
        self.assertEqual(ballot, ballot_of(VOTES))
        self.assertEqual(ballot.weight(voter="ann"), 2)
        self.assertEqual(ballot.weight_of(voters=["ann"]), 2)
        self.assertEqual(len(ballot.votes_of(voter="ann")), 2)
        self.assertEqual(len(ballot.with_vote(voter="ann", source="a", target="d").votes()), 5)
        self.assertEqual(ballot.with_block(block="e", parent="d").tree().parent("e"), "d")
        self.assertEqual(broken(tree=TREE, one=(1, "a", "b"), other=(1, "a", "c")), "twice")
        self.assertEqual(len(evidence(ballot=ballot, voter="bob")), 2)
        self.assertEqual(guilty(ballot=ballot), ["bob"])
        self.assertTrue(can_vote(ballot=ballot, voter="ann", source="c", target="d"))
        self.assertEqual(list(inspect.signature(Ballot).parameters), ["tree", "weights", "share", "votes"])

    def test_the_votes_may_be_left_out(self):
        self.assertEqual(Ballot(TREE, WEIGHTS, 1).votes(), [])
        self.assertEqual(Ballot(TREE, WEIGHTS, 1), Ballot(TREE, WEIGHTS, 1, []))


class WrongNames(Checks):
    """[16]: BadName."""

    def test_keys_that_are_no_names(self):
        for key in NO_NAMES + [value for value in FIT_FOR_KEYS if value != "a"]:
            self.assert_given(BadName, key, Ballot, TREE, {key: 1}, TWO_THIRDS)
            self.assert_given(BadName, key, Ballot, TREE, {"ann": 1, key: 1, "bob": 2}, TWO_THIRDS, VOTES)

    def test_the_first_wrong_key_counts(self):
        self.assert_given(BadName, "B", Ballot, TREE, {"ann": 1, "B": 1, "A": 1, 1: 1}, TWO_THIRDS)
        self.assert_given(BadName, 1, Ballot, TREE, {1: 1, "B": 1, "A": 1, "ann": 1}, TWO_THIRDS)

    def test_it_comes_ahead_of_the_other_errors(self):
        self.assert_given(BadName, "A", Ballot, TREE, {"ann": 0, "A": 1}, 0, [None])
        self.assert_given(BadName, "A", Ballot, TREE, {"ann": 1, "A": 1}, 0)
        self.assert_given(BadName, "A", Ballot, TREE, {"ann": 1, "A": 1}, 1, [("ann", "a", "a")])

    def test_a_voter_may_have_the_name_of_a_block(self):
        ballot = Ballot(TREE, {"root": 1, "a": 2}, 1, [("a", "a", "b"), ("root", "root", "a")])
        self.assertEqual(ballot.voters(), ["a", "root"])
        self.assertEqual(ballot.votes_of("root"), [("root", "root", "a")])


class WrongWeights(Checks):
    """[16]: BadWeight."""

    def test_values_that_are_no_weights(self):
        for value in NO_WEIGHTS:
            self.assert_given(BadWeight, value, Ballot, TREE, {"ann": value}, TWO_THIRDS)
            self.assert_given(BadWeight, value, Ballot, TREE, {"bob": 1, "ann": value, "cy": 3}, TWO_THIRDS, VOTES)

    def test_the_first_wrong_value_counts(self):
        for one, other in permutations([0, -1, True, None, Ratio(-1, 3), "1", []], 2):
            self.assert_given(BadWeight, one, Ballot, TREE, {"z": 1, "cy": one, "b": 2, "a": other}, TWO_THIRDS)

    def test_it_comes_ahead_of_the_later_errors(self):
        self.assert_given(BadWeight, 0, Ballot, TREE, {"ann": 1, "bob": 0}, 0, [None])
        self.assert_given(BadWeight, True, Ballot, TREE, {"ann": True}, 1, [None])

    def test_weights(self):
        for weight in [1, 7, Ratio(1), Ratio(1, 3), Ratio(1, BIG), 10 * BIG - 1, Ratio(10 * BIG - 1, BIG + 7)]:
            ballot = Ballot(TREE, {"ann": weight, "bob": 3}, TWO_THIRDS)
            self.assertIs(ballot.weight("ann").__class__, Ratio)
            self.assertEqual(ballot.weight("ann"), weight)
            self.assertEqual(ballot.whole(), Ratio(3) + weight)


class WrongShares(Checks):
    """[16]: BadShare."""

    def test_values_that_are_no_shares(self):
        for value in NO_SHARES:
            self.assert_given(BadShare, value, Ballot, TREE, WEIGHTS, value)
            self.assert_given(BadShare, value, Ballot, TREE, WEIGHTS, value, VOTES)

    def test_it_comes_ahead_of_wrong_votes(self):
        self.assert_given(BadShare, Ratio(1, 2), Ballot, TREE, WEIGHTS, Ratio(1, 2), [None])

    def test_shares(self):
        for share in SHARES:
            told = Ballot(TREE, WEIGHTS, share).share()
            self.assertIs(told.__class__, Ratio)
            self.assertEqual(told, share)


class WrongVotes(Checks):
    """[3], [16]: BadVote."""

    def test_values_that_are_no_votes(self):
        for value in NO_VOTES:
            self.assert_given(BadVote, value, ballot_of, [value])
            self.assert_given(BadVote, value, ballot_of, (*VOTES, value))
            self.assert_given(BadVote, value, ballot_of, [VOTES[0], value, VOTES[1]])

    def test_the_first_wrong_item_counts(self):
        told = [None, [], ("ann", "a", "a"), ("x", "root", "a"), ("ann", "root", "gone"), "ann", 5, Ratio(1)]
        for one, other in permutations(told, 2):
            self.assert_given(BadVote, one, ballot_of, [*VOTES, one, other])
            self.assert_given(BadVote, one, ballot_of, (one, VOTES[0], other, one))

    def test_just_the_links_can_be_voted_for(self):
        for source, target in product(MANY, MANY):
            vote = ("ann", source, target)
            if (source, target) in LINKS:
                self.assertEqual(ballot_of([vote]).votes(), [vote])
            else:
                self.assert_given(BadVote, vote, ballot_of, [vote])


class Keeping(Checks):
    """[6], [16], [17]: what a ballot keeps and tells."""

    def test_it_tells_what_it_was_made_of(self):
        ballot = ballot_of(VOTES)
        self.assertEqual(ballot.tree(), TREE)
        self.assertEqual(ballot.share(), TWO_THIRDS)
        self.assertEqual(ballot.voters(), ["ann", "bob"])
        self.assertEqual([ballot.weight("ann"), ballot.weight("bob"), ballot.whole()], [2, 1, 3])
        self.assertEqual(ballot.votes(), sorted(VOTES))
        self.assertEqual(ballot.votes_of("bob"), [("bob", "a", "b"), ("bob", "root", "d")])

    def test_votes_given_twice_count_once(self):
        for votes in [VOTES * 2, VOTES + VOTES[::-1], [VOTES[2], *VOTES, VOTES[2], VOTES[2]]]:
            self.assertEqual(ballot_of(votes).votes(), sorted(VOTES))
            self.assertEqual(ballot_of(votes), ballot_of(VOTES))
            self.assertEqual(len(ballot_of(votes).votes_of("bob")), 2)

    def test_votes_as_a_tuple(self):
        self.assertEqual(ballot_of(tuple(VOTES)), ballot_of(VOTES))
        self.assertEqual(ballot_of(tuple(VOTES)).votes(), sorted(VOTES))
        self.assertEqual(ballot_of(()), ballot_of([]))

    def test_names_in_order_of_letters(self):
        tree = Tree({"b": "", "ab": "b", "a": "ab", "abc": "ab", "aa": "a"})
        weights = {name: 1 for name in ["b", "ab", "a", "abc", "aa", "z", "zz"]}
        votes = [(voter, *link) for voter in weights for link in model.all_links({"b": "", "ab": "b", "a": "ab",
                                                                                  "abc": "ab", "aa": "a"})]
        ballot = Ballot(tree, weights, 1, votes)
        self.assertEqual(ballot.voters(), ["a", "aa", "ab", "abc", "b", "z", "zz"])
        self.assertEqual(ballot.votes(), sorted(votes))
        self.assertEqual(ballot.votes_of("ab"), sorted(vote for vote in votes if vote[0] == "ab"))

    def test_random_ballots(self):
        for case in model.cases(150, "keeping"):
            ballot = case.ballot()
            self.assertEqual(ballot.votes(), sorted(set(case.votes)))
            self.assertEqual(ballot.voters(), sorted(case.weights))
            self.assertEqual(model.fraction(ballot.whole()), case.whole())
            self.assertEqual(model.fraction(ballot.share()), case.share)
            for voter in case.weights:
                self.assertEqual(model.fraction(ballot.weight(voter)), case.weights[voter])
                self.assertEqual(ballot.votes_of(voter), [vote for vote in ballot.votes() if vote[0] == voter])

    def test_later_changes_of_the_dict_and_the_list(self):
        weights, votes = dict(WEIGHTS), list(VOTES)
        ballot = Ballot(TREE, weights, TWO_THIRDS, votes)
        weights["ann"] = 5
        weights["cy"] = 1
        del weights["bob"]
        votes.append(("ann", "c", "d"))
        votes[0] = None
        self.assertEqual(ballot, ballot_of(VOTES))
        self.assertEqual((ballot.voters(), ballot.whole()), (["ann", "bob"], 3))

    def test_the_dict_and_the_list_stay_as_they_were(self):
        weights, votes = dict(WEIGHTS), [*VOTES, VOTES[0]]
        ballot = Ballot(TREE, weights, TWO_THIRDS, votes)
        voters = ["bob", "ann", "bob"]
        ballot.weight_of(voters)
        ballot.with_vote("ann", "c", "d")
        self.assertEqual((list(weights.items()), votes, voters),
                         (list(WEIGHTS.items()), [*VOTES, VOTES[0]], ["bob", "ann", "bob"]))
        self.assertTrue(all(same(weights[voter], WEIGHTS[voter]) for voter in weights))

    def test_lists_are_new_on_each_call(self):
        ballot = ballot_of(VOTES)
        for call in [ballot.voters, ballot.votes, lambda: ballot.votes_of("ann"), lambda: guilty(ballot),
                     ballot_of().votes]:
            told = call()
            kept = list(told)
            told.append("more")
            told[0] = "other"
            self.assertEqual(call(), kept)
            self.assertIsNot(call(), call())
        self.assertEqual(ballot, ballot_of(VOTES))

    def test_votes_are_tuples(self):
        for vote in ballot_of(VOTES).votes() + ballot_of(VOTES).votes_of("ann"):
            self.assertIs(vote.__class__, tuple)

    def test_no_voter(self):
        ballot = ballot_of(VOTES)
        for value in NO_VOTERS:
            self.assert_given(NoVoter, value, ballot.weight, value)
            self.assert_given(NoVoter, value, ballot.votes_of, value)
            self.assert_given(NoVoter, value, evidence, ballot, value)

    def test_a_voter_without_votes(self):
        ballot = ballot_of(VOTES[:1])
        self.assertEqual(ballot.votes_of("bob"), [])


class WeightsTogether(Checks):
    """[17]: weight_of."""

    def test_each_voter_counts_once(self):
        ballot = ballot_of(VOTES, {"ann": 2, "bob": Ratio(1, 2), "cy": Ratio(1, 3)})
        for voters, expected in [
                ([], 0), ((), 0), (["ann"], 2), (("ann",), 2), (["ann", "ann"], 2), (["cy", "bob"], Ratio(5, 6)),
                (["bob", "cy", "bob", "cy", "bob"], Ratio(5, 6)), (("cy", "ann", "cy", "bob"), Ratio(17, 6))]:
            told = ballot.weight_of(voters)
            self.assertIs(told.__class__, Ratio)
            self.assertEqual(told, expected)

    def test_equal_weights_count_for_each_voter(self):
        ballot = Ballot(TREE, {"ann": 1, "bob": 1, "cy": 1}, 1)
        self.assertEqual(ballot.weight_of(["ann", "bob"]), 2)
        self.assertEqual(ballot.whole(), 3)
        self.assertIs(ballot.whole().__class__, Ratio)

    def test_the_first_item_that_is_no_voter(self):
        ballot = ballot_of(VOTES)
        for value in NO_VOTERS:
            self.assert_given(NoVoter, value, ballot.weight_of, [value])
            self.assert_given(NoVoter, value, ballot.weight_of, ("bob", "ann", "bob", value, "bob"))
        for one, other in permutations([None, "x", [], 1, Ratio(1), ("ann",), ["ann"], {}], 2):
            self.assert_given(NoVoter, one, ballot.weight_of, ["ann", one, other, "bob"])


class Growing(Checks):
    """[17]: with_vote and with_block."""

    def test_one_more_vote(self):
        for voter, link in product(WEIGHTS, LINKS):
            vote = (voter, *link)
            self.assertEqual(ballot_of(VOTES).with_vote(*vote), ballot_of([*VOTES, vote]))
            self.assertIn(vote, ballot_of(VOTES).with_vote(*vote).votes())

    def test_a_vote_that_is_there_already(self):
        for vote in VOTES:
            self.assertEqual(ballot_of(VOTES).with_vote(*vote), ballot_of(VOTES))
            self.assertEqual(ballot_of(VOTES).with_vote(*vote).votes(), sorted(VOTES))

    def test_no_vote(self):
        ballot = ballot_of(VOTES)
        for value in NO_VOTES:
            if isinstance(value, tuple) and len(value) == 3:
                self.assert_given(BadVote, value, ballot.with_vote, *value)
                self.assert_given(BadVote, value, can_vote, ballot, *value)
        self.assertEqual(ballot, ballot_of(VOTES))

    def test_one_more_block(self):
        for parent in MANY:
            grown = ballot_of(VOTES).with_block("new", parent)
            self.assertEqual(grown, Ballot(Tree({**MANY, "new": parent}), WEIGHTS, TWO_THIRDS, VOTES))
            self.assertEqual(grown.with_vote("ann", parent, "new").votes_of("ann")[-1][0], "ann")

    def test_no_new_block(self):
        ballot = ballot_of(VOTES)
        for value in [value for value in ANY_VALUES + NO_NAMES if not same(value, "a")]:
            self.assert_given(BadName, value, ballot.with_block, value, "a")
            self.assert_given(BadName, value, ballot.with_block, value, value)
            self.assert_given(NoBlock, value, ballot.with_block, "new", value)
            self.assert_given(InUse, "b", ballot.with_block, "b", value)
        for block in MANY:
            self.assert_given(InUse, block, ballot.with_block, block, "a")
        self.assert_given(NoBlock, "new", ballot.with_block, "new", "new")

    def test_the_old_ballot_stays_as_it_was(self):
        old = ballot_of(VOTES)
        new = [old.with_vote("bob", "c", "d"), old.with_block("e", "b"), old.with_block("e", "b").with_block("f", "e")]
        self.assertEqual(old, ballot_of(VOTES))
        self.assertEqual((old.votes(), old.tree(), len(old.tree())), (sorted(VOTES), TREE, 5))
        for grown in new:
            self.assertNotEqual(grown, old)
            self.assertIs(grown.__class__, Ballot)
            self.assertEqual((grown.voters(), grown.whole(), grown.share()), (["ann", "bob"], 3, TWO_THIRDS))

    def test_random_ballots_vote_by_vote(self):
        for case in model.cases(40, "vote by vote"):
            ballot = model.Case(case.parents, case.weights, case.share, []).ballot()
            for vote in case.votes:
                ballot = ballot.with_vote(*vote)
            self.assertEqual(ballot, case.ballot())


class Equality(Checks):
    """[6], [17]: when ballots are equal."""

    def test_dicts_and_votes_in_other_orders(self):
        for votes in permutations(VOTES):
            for parents in [MANY, dict(reversed(list(MANY.items())))]:
                for weights in [{"ann": 2, "bob": 1}, {"bob": Ratio(1), "ann": Ratio(4, 2)}]:
                    ballot = Ballot(Tree(parents), weights, Ratio(4, 6), votes)
                    self.assertTrue(ballot == ballot_of(VOTES))
                    self.assertFalse(ballot != ballot_of(VOTES))

    def test_share_as_an_integer_and_as_a_ratio(self):
        self.assertTrue(Ballot(TREE, WEIGHTS, 1) == Ballot(TREE, WEIGHTS, Ratio(1)))

    def test_each_part_makes_a_difference(self):
        ballot = ballot_of(VOTES)
        for other in [
                Ballot(Tree({**MANY, "e": "d"}), WEIGHTS, TWO_THIRDS, VOTES),
                Ballot(Tree({**MANY, "d": "b"}), WEIGHTS, TWO_THIRDS, VOTES),
                Ballot(TREE, {"ann": 2, "bob": 2}, TWO_THIRDS, VOTES),
                Ballot(TREE, {"ann": 1, "bob": 2}, TWO_THIRDS, VOTES),
                Ballot(TREE, {"ann": 4, "bob": 2}, TWO_THIRDS, VOTES),
                Ballot(TREE, {"ann": 2, "bob": 1, "cy": 1}, TWO_THIRDS, VOTES),
                Ballot(TREE, WEIGHTS, Ratio(3, 4), VOTES), Ballot(TREE, WEIGHTS, 1, VOTES),
                ballot_of(VOTES[:3]), ballot_of([*VOTES, ("ann", "c", "d")]),
                ballot_of([*VOTES[:3], ("ann", "a", "c")]), ballot_of([*VOTES[:3], ("bob", "root", "b")]), ballot_of()]:
            self.assertIs(ballot == other, False)
            self.assertIs(other == ballot, False)
            self.assertIs(ballot != other, True)
        self.assertIs(ballot_of() == Ballot(TREE, {"ann": 2, "cy": 1}, TWO_THIRDS), False)

    def test_values_that_are_no_ballots(self):
        for value in [*ANY_VALUES, TREE, WEIGHTS, VOTES, Ratio(2, 3), object(), (TREE, WEIGHTS, TWO_THIRDS, VOTES)]:
            self.assertIs(ballot_of(VOTES) == value, False)
            self.assertIs(value == ballot_of(VOTES), False)
            self.assertIs(ballot_of(VOTES) != value, True)


class Rules(Checks):
    """[4], [18]: which votes break a rule."""

    TREES = [MANY, {"r": "", "a": "r", "b": "a", "c": "b", "d": "c", "e": "r", "f": "e", "g": "f", "h": "g", "i": "b"}]

    def test_each_two_links(self):
        counts = {"twice": 0, "around": 0, "none": 0}
        for parents in self.TREES:
            links = model.all_links(parents)
            for one, other in product(links, links):
                told = broken(Tree(parents), ("x", *one), ("x", *other))
                self.assertEqual(told, model.breaks(parents, one, other))
                self.assertEqual(told, broken(Tree(parents), ("x", *other), ("x", *one)))
                counts[told] += 1
        self.assertGreater(min(counts.values()), 50)

    def test_twice(self):
        for one, other in [(("a", "b"), ("a", "c")), (("root", "b"), ("a", "c")), (("root", "a"), ("root", "a")),
                           (("root", "d"), ("c", "d")), (("a", "d"), ("c", "d"))]:
            for left, right in [(one, other), (other, one)]:
                self.assertEqual(broken(TREE, ("x", *left), ("x", *right)), "none" if one == other else "twice")

    def test_around(self):
        for outer, inner in [(("root", "d"), ("a", "b")), (("root", "d"), ("a", "c"))]:
            self.assertEqual(broken(TREE, ("x", *outer), ("x", *inner)), "around")
            self.assertEqual(broken(TREE, ("x", *inner), ("x", *outer)), "around")

    def test_none(self):
        # Sources of one height, links one after the other, and links that overlap break no rule.
        for one, other in [(("root", "a"), ("root", "b")), (("root", "a"), ("a", "b")), (("root", "b"), ("a", "d")),
                           (("root", "a"), ("c", "d")), (("root", "a"), ("root", "d"))]:
            self.assertEqual(broken(TREE, ("x", *one), ("x", *other)), "none")
            self.assertEqual(broken(TREE, ("x", *other), ("x", *one)), "none")

    def test_the_voters_make_no_difference(self):
        for one, other in product(LINKS, LINKS):
            expected = model.breaks(MANY, one, other)
            for left, right in [("x", "y"), ("ann", "bob"), (None, []), ([], {}), (1, True), (Ratio(1), "")]:
                self.assertEqual(broken(TREE, (left, *one), (right, *other)), expected)
        for value in ANY_VALUES:
            self.assertEqual(broken(TREE, (value, "a", "b"), (value, "a", "c")), "twice")
            self.assertEqual(broken(TREE, (value, "a", "b"), ("ann", "a", "b")), "none")

    def test_what_is_not_fit_for_a_vote(self):
        fit = [("x", "root", "a"), (None, "a", "d"), ([], "c", "d")]
        wrong = [value for value in NO_VOTES if not (isinstance(value, tuple) and value[1:] == ("root", "a"))]
        self.assertGreater(len(wrong), 60)
        for value in wrong:
            for good in fit:
                self.assert_given(BadVote, value, broken, TREE, value, good)
                self.assert_given(BadVote, value, broken, TREE, good, value)
            self.assert_given(BadVote, value, broken, TREE, value, value)

    def test_the_first_of_two_wrong_ones_counts(self):
        for one, other in permutations([None, [], "abc", ("x", "a", "a"), ("x", "gone", "a"), ("root", "a"), 5], 2):
            self.assert_given(BadVote, one, broken, TREE, one, other)


class Guilt(Checks):
    """[4], [18]: evidence and guilty."""

    def assert_evidence(self, case, ballot):
        for voter in case.weights:
            told = evidence(ballot, voter)
            if case.pairs(voter):
                self.assertIs(told.__class__, tuple)
                self.assertIn(told, case.pairs(voter))
                self.assertLess(told[0], told[1])
            else:
                self.assertIsNone(told)

    def test_two_votes_of_one_voter(self):
        for one, other in product(LINKS, LINKS):
            case = model.Case(MANY, {"ann": Fraction(1), "bob": Fraction(1)}, 1, [("ann", *one), ("ann", *other)])
            self.assert_evidence(case, case.ballot())
            self.assertEqual(guilty(case.ballot()), ["ann"] if model.breaks(MANY, one, other) != "none" else [])

    def test_votes_of_two_voters_break_no_rule(self):
        for one, other in product(LINKS, LINKS):
            ballot = ballot_of([("ann", *one), ("bob", *other)])
            self.assertEqual(guilty(ballot), [])
            self.assertIsNone(evidence(ballot, "ann"))

    def test_random_ballots(self):
        found = {True: 0, False: 0}
        for case in model.cases(300, "guilt"):
            ballot = case.ballot()
            self.assert_evidence(case, ballot)
            self.assertEqual(guilty(ballot), case.guilty())
            for voter in case.weights:
                found[voter in case.guilty()] += 1
        self.assertGreater(min(found.values()), 100)

    def test_a_ballot_without_votes(self):
        self.assertEqual(guilty(ballot_of()), [])
        self.assertIsNone(evidence(ballot_of(), "ann"))


class CanVote(Checks):
    """[18]: can_vote."""

    def test_each_vote(self):
        for case in model.cases(80, "can vote"):
            ballot = case.ballot()
            for voter, link in product(case.weights, model.all_links(case.parents)):
                others = [vote for vote in case.votes if vote[0] == voter]
                expected = all(model.breaks(case.parents, link, vote[1:]) == "none" for vote in others)
                self.assertIs(can_vote(ballot, voter, *link), expected)

    def test_a_vote_that_is_there_already(self):
        self.assertIs(can_vote(ballot_of(VOTES), "ann", "root", "a"), True)
        self.assertIs(can_vote(ballot_of(VOTES), "bob", "root", "d"), False)

    def test_voters_who_are_guilty_already(self):
        ballot = ballot_of(VOTES)
        self.assertEqual(guilty(ballot), ["bob"])
        self.assertIs(can_vote(ballot, "bob", "root", "a"), True)
        self.assertIs(can_vote(ballot, "bob", "c", "d"), False)
        self.assertIs(can_vote(ballot, "bob", "a", "c"), False)

    def test_votes_of_others_do_not_count(self):
        ballot = ballot_of([("bob", *link) for link in LINKS])
        for link in LINKS:
            self.assertIs(can_vote(ballot, "ann", *link), True)

    def test_the_ballot_stays_as_it_was(self):
        ballot = ballot_of(VOTES)
        can_vote(ballot, "ann", "c", "d")
        self.assertEqual(ballot, ballot_of(VOTES))


class NothingIsTakenAway(Checks):
    """[5]: with further votes and blocks nobody who is guilty is so no longer."""

    def test_guilt_stays(self):
        for case in model.cases(60, "guilt stays"):
            before, kept = guilty(case.ballot()), case.ballot()
            for count, vote in enumerate(model.further_votes(case, 6)):
                kept = kept.with_block("new" + "abcdef"[count], case.root).with_vote(*vote)
                self.assertLessEqual(set(before), set(guilty(kept)))
                before = guilty(kept)
