from itertools import combinations
from random import Random

from finalblocks import views
from finalblocks.ballots import Ballot, guilty
from finalblocks.blame import blame, clashes, is_blame
from finalblocks.errors import BadVote, NoBlock, UnlikeTrees
from finalblocks.ratios import Ratio
from finalblocks.standing import final, justified
from finalblocks.trees import Tree
from finalblocks.views import common, is_view, missing, needed, parted, together, view_with
from tests import force, model
from tests.checks import Checks
from tests.values import ANY_VALUES, same

LINE = {"root": "", "a": "root", "c": "a"}
THREE = {"ann": 1, "bob": 1, "cy": 1}
TWO_THIRDS = Ratio(2, 3)
VOTES = [(voter, *link) for voter in ["ann", "bob"] for link in [("root", "a"), ("a", "c")]]
FAR = [(voter, *link) for voter in ["bob", "cy"] for link in [("root", "b"), ("b", "d")]]
NO_BLOCKS = [value for value in ANY_VALUES if not same(value, "a")] + ["gone", "roo", "A", "b"]


def ballot_of(parents=LINE, votes=VOTES, weights=THREE, share=TWO_THIRDS):
    return Ballot(Tree(parents), weights, share, votes)


def far():
    return ballot_of({"root": "", "b": "root", "d": "b"}, FAR)


def some_part(random, case):
    """A case with some of the blocks and some of the votes of another one."""
    kept = {case.root: ""}
    likely = random.choice([0.5, 0.8, 1, 1])
    for block in sorted(case.parents, key=lambda name: model.height(case.parents, name)):
        if case.parents[block] in kept and random.random() < likely:
            kept[block] = case.parents[block]
    likely = random.choice([0.3, 0.9, 1, 1])
    votes = [vote for vote in case.votes if vote[1] in kept and vote[2] in kept and random.random() < likely]
    return model.Case(kept, case.weights, case.share, votes)


def pairs(count, seed):
    """Pairs of cases that are parts of one case, and this case; the same on each run."""
    random = Random(seed)
    for case in [*force.final_cases(count, seed), *model.clashing_cases(count, seed), *model.cases(count, seed)]:
        yield some_part(random, case), some_part(random, case), case


def unlike_pairs():
    """Pairs of ballots that do not fit together, for one reason each."""
    ballot = ballot_of()
    for weights in [{"ann": 1, "bob": 1}, {**THREE, "dot": 1}, {**THREE, "cy": 2}, {**THREE, "cy": Ratio(1, 2)},
                    {"ann": 1, "bob": 1, "dot": 1}, {"ann": 2, "bob": 2, "cy": 2}]:
        yield ballot, ballot_of(weights=weights, votes=[])
    for share in [1, Ratio(3, 4), Ratio(2 * 10 ** 59 + 1, 3 * 10 ** 59)]:
        yield ballot, ballot_of(share=share)
    yield ballot, ballot_of({"r": "", "a": "r", "c": "a"}, [])
    yield ballot, ballot_of({"a": "", "c": "a"}, [])
    yield ballot, ballot_of({"c": "", "a": "c"}, [])
    yield ballot, ballot_of({"root": "", "a": "root", "c": "root"}, [])
    yield ballot, ballot_of({"root": "", "b": "root", "a": "b"}, [])
    yield ballot, ballot_of({"root": "", "c": "root"}, [])
    yield ballot_of({"r": ""}, []), ballot_of({"root": ""}, [])


class Examples(Checks):
    """The examples of the interface."""

    def test_them(self):
        ballot = ballot_of()
        view = Ballot(Tree({"root": "", "a": "root"}), {"ann": 1, "bob": 1, "cy": 1}, Ratio(2, 3),
                      [("ann", "root", "a")])
        self.assertEqual((is_view(view, ballot), is_view(ballot, view), together(view, ballot) == ballot,
                          common(ballot, view) == view, len(missing(view, ballot))), (True, False, True, True, 3))
        self.assertEqual((needed(view, ballot, "a"), needed(view, ballot, "c"), needed(view, ballot, "root")),
                         ([("ann", "a", "c"), ("bob", "a", "c"), ("bob", "root", "a")], None, []))
        self.assertEqual((parted(ballot, far()), parted(view, far()), guilty(together(ballot, far())),
                          final(view_with(view, ballot, missing(view, ballot)))),
                         ([("a", "b")], [], ["bob"], ["a", "root"]))
        with self.assertRaises(UnlikeTrees):
            missing(far(), ballot)

    def test_where_things_stand(self):
        for name in ["is_view", "together", "common", "parted", "missing", "view_with", "needed"]:
            self.assertEqual(getattr(views, name).__module__, "finalblocks.views", name)

    def test_arguments_by_name(self):
        ballot = ballot_of()
        self.assertTrue(is_view(view=ballot, ballot=ballot))
        self.assertEqual(together(one=ballot, other=ballot), ballot)
        self.assertEqual(common(one=ballot, other=ballot), ballot)
        self.assertEqual(parted(one=ballot, other=far()), [("a", "b")])
        self.assertEqual(missing(view=ballot, ballot=ballot), [])
        self.assertEqual(view_with(view=ballot, ballot=ballot, votes=[]), ballot)
        self.assertEqual(needed(view=ballot, ballot=ballot, block="a"), [])


class Fitting(Checks):
    """[30]: which ballots fit together, and which are views."""

    def test_ballots_that_do_not_fit_together(self):
        for one, other in unlike_pairs():
            for left, right in [(one, other), (other, one)]:
                self.assertIs(is_view(left, right), False)
                for function in [together, common, parted, missing]:
                    with self.assertRaises(UnlikeTrees):
                        function(left, right)

    def test_weights_and_shares_of_different_classes(self):
        one = ballot_of(weights={"ann": 1, "bob": Ratio(2), "cy": 3}, share=1)
        other = ballot_of(weights={"cy": Ratio(3), "bob": 2, "ann": Ratio(1)}, share=Ratio(1))
        self.assertIs(is_view(one, other), True)
        self.assertEqual(together(one, other), one)

    def test_views(self):
        ballot = ballot_of()
        for parents, votes, expected in [
                (LINE, VOTES, True), (LINE, [], True), (LINE, VOTES[:1], True), ({"root": ""}, [], True),
                ({"root": "", "a": "root"}, [("bob", "root", "a")], True), (LINE, [("cy", "root", "a")], False),
                ({**LINE, "d": "c"}, VOTES, False), ({**LINE, "d": "c"}, [], False),
                (LINE, [*VOTES, ("cy", "a", "c")], False), ({"root": "", "b": "root"}, [], False)]:
            self.assertIs(is_view(ballot_of(parents, votes), ballot), expected)

    def test_random_ballots(self):
        found = {True: 0, False: 0}
        for one, other, whole in pairs(30, "views"):
            for left, right in [(one, other), (one, whole), (whole, one), (one, one)]:
                expected = set(left.parents) <= set(right.parents) and set(left.votes) <= set(right.votes)
                self.assertIs(is_view(left.ballot(), right.ballot()), expected)
                found[expected] += 1
        self.assertGreater(min(found.values()), 60)

    def test_together_and_common_in_both_orders(self):
        for one, other, whole in pairs(25, "together"):
            left, right = one.ballot(), other.ballot()
            for first, second in [(left, right), (right, left)]:
                expected = model.Case({**one.parents, **other.parents}, whole.weights, whole.share,
                                      one.votes + other.votes)
                self.assertEqual(together(first, second), expected.ballot())
                expected = model.Case({block: one.parents[block] for block in one.parents if block in other.parents},
                                      whole.weights, whole.share, [vote for vote in one.votes if vote in other.votes])
                self.assertEqual(common(first, second), expected.ballot())
                self.assertIs(is_view(common(first, second), first), True)
                self.assertIs(is_view(first, together(first, second)), True)
            self.assertEqual((left, right), (one.ballot(), other.ballot()))

    def test_trees_that_only_join_far_up(self):
        one = ballot_of({"root": "", "a": "root", "b": "a"}, [("ann", "a", "b")])
        other = ballot_of({"root": "", "c": "root", "d": "c"}, [("ann", "c", "d")])
        both = together(one, other)
        self.assertEqual(both.tree().text(), "root\na root\nc root\nb a\nd c")
        self.assertEqual(both.votes(), [("ann", "a", "b"), ("ann", "c", "d")])
        self.assertEqual(common(one, other), ballot_of({"root": ""}, []))


class Parted(Checks):
    """[31]: final blocks of two ballots that are against one another."""

    def test_random_ballots(self):
        found = 0
        for one, other, _ in pairs(60, "parted"):
            left, right = one.ballot(), other.ballot()
            parents = {**one.parents, **other.parents}
            expected = sorted((block, against) for block in one.final() for against in other.final()
                              if model.against(parents, block, against))
            self.assertEqual(parted(left, right), expected)
            self.assertEqual(parted(right, left), sorted(pair[::-1] for pair in expected))
            both = together(left, right)
            for pair in expected:
                self.assertIs(is_blame(both, blame(both, *pair)), True)
                self.assertIn(tuple(sorted(pair)), clashes(both))
            found += len(expected)
        self.assertGreater(found, 30)

    def test_two_that_have_parted(self):
        self.assertEqual(parted(ballot_of(), far()), [("a", "b")])
        self.assertEqual(parted(far(), ballot_of()), [("b", "a")])
        both = together(far(), ballot_of())
        self.assertEqual(parted(both, both), [("a", "b"), ("b", "a")])
        self.assertEqual(parted(ballot_of(), both), [("a", "b")])
        self.assertEqual(list(blame(both, "a", "b")), ["bob"])
        # What is final in both together, but in neither of them, does not count.
        self.assertEqual(parted(ballot_of(), ballot_of(LINE, VOTES[:2])), [])

    def test_what_stands_in_a_view_stands_in_the_whole(self):
        for one, _, whole in pairs(40, "stands"):
            view, ballot = one.ballot(), whole.ballot()
            self.assertIs(is_view(view, ballot), True)
            self.assertLessEqual(set(justified(view)), set(justified(ballot)))
            self.assertLessEqual(set(final(view)), set(final(ballot)))
            self.assertLessEqual(set(guilty(view)), set(guilty(ballot)))
            self.assertEqual(parted(view, ballot) == [], not any(
                model.against(whole.parents, *pair) for pair in combinations(final(ballot), 2)
                if set(pair) & set(final(view))))


class Missing(Checks):
    """[32]: what a view lacks."""

    def test_missing(self):
        for one, _, whole in pairs(30, "missing"):
            view, ballot = one.ballot(), whole.ballot()
            self.assertEqual(missing(view, ballot), sorted(set(whole.votes) - set(one.votes)))
            self.assertEqual(missing(ballot, ballot), [])

    def test_view_with(self):
        random = Random("with")
        for one, _, whole in pairs(30, "with"):
            view, ballot = one.ballot(), whole.ballot()
            votes = random.choices(whole.votes, k=random.randrange(4)) if whole.votes else []
            for chosen in [votes, tuple(votes), votes + votes, missing(view, ballot)]:
                parents = dict(one.parents)
                for vote in chosen:
                    parents.update({block: whole.parents[block] for block in model.branch(whole.parents, vote[2])})
                expected = model.Case(parents, whole.weights, whole.share, [*one.votes, *chosen])
                told = view_with(view, ballot, chosen)
                self.assertEqual(told, expected.ballot())
                self.assertIs(is_view(told, ballot), True)
                self.assertIs(is_view(view, told), True)
            self.assertEqual((view, ballot), (one.ballot(), whole.ballot()))

    def test_a_view_without_the_blocks(self):
        parents = {**LINE, "d": "c", "e": "d", "b": "root"}
        votes = [*VOTES, ("cy", "a", "e"), ("ann", "root", "b")]
        ballot, view = ballot_of(parents, votes), ballot_of({"root": ""}, [])
        told = view_with(view, ballot, [("cy", "a", "e"), ("cy", "a", "e")])
        self.assertEqual(told, ballot_of({**LINE, "d": "c", "e": "d"}, [("cy", "a", "e")]))
        # Votes that the view has already, and none at all.
        self.assertEqual(view_with(told, ballot, told.votes()), told)
        self.assertEqual(view_with(view, ballot, []), view)

    def test_votes_of_no_kind(self):
        ballot = ballot_of()
        for view in [ballot_of({"root": ""}, []), ballot]:
            for value in [*ANY_VALUES, ("cy", "root", "a"), ("ann", "root", "c"), ["ann", "root", "a"],
                          ("ann", "c", "a"), ("root", "a"), ("ann", "root", "a", None), ("ann", "root"), "ann"]:
                self.assert_given(BadVote, value, view_with, view, ballot, [value])
                self.assert_given(BadVote, value, view_with, view, ballot, (("ann", "root", "a"), value, None))
                self.assert_given(BadVote, None, view_with, view, ballot, [None, value])

    def test_errors_in_their_order(self):
        for one, other in unlike_pairs():
            for left, right in [(one, other), (other, one)]:
                for votes in [[], [None], [("ann", "root", "a")]]:
                    with self.assertRaises(UnlikeTrees):
                        view_with(left, right, votes)
                for block in ["root", "a", "gone", None]:
                    with self.assertRaises(UnlikeTrees):
                        needed(left, right, block)
        # A ballot that fits, but is no view.
        for view in [ballot_of({**LINE, "d": "c"}, []), ballot_of(votes=[("cy", "root", "a")]), far()]:
            for call in [lambda: missing(view, ballot_of()), lambda: view_with(view, ballot_of(), [None]),
                         lambda: needed(view, ballot_of(), None)]:
                with self.assertRaises(UnlikeTrees):
                    call()

    def test_no_block(self):
        for value in NO_BLOCKS:
            for view in [ballot_of({"root": ""}, []), ballot_of()]:
                self.assert_given(NoBlock, value, needed, view, ballot_of(), value)


class Needed(Checks):
    """[32]: as few votes as possible with which a block is final in a view."""

    def assert_needed(self, one, whole, block):
        view, ballot = one.ballot(), whole.ballot()
        told = needed(view, ballot, block)
        lacking = sorted(set(whole.votes) - set(one.votes))
        if block not in whole.final():
            self.assertIsNone(told)
            return -1
        self.assertEqual(told, sorted(set(told)))
        self.assertLessEqual(set(told), set(lacking))
        self.assertIn(block, final(view_with(view, ballot, told)))
        for lot in combinations(lacking, len(told) - 1) if told else []:
            fewer = model.Case(whole.parents, whole.weights, whole.share, [*one.votes, *lot])
            self.assertNotIn(block, fewer.final())
        return len(told)

    def test_all_ways_on_small_ballots(self):
        random, found = Random("needed"), {}
        for case in [*force.final_cases(60, "needed"), *model.clashing_cases(6, "needed")]:
            whole = case
            if random.random() < 0.3:
                votes = random.sample(case.votes, min(11, len(case.votes)))
                whole = model.Case(case.parents, case.weights, case.share, votes)
            one = some_part(random, whole)
            if len(set(whole.votes) - set(one.votes)) <= 10:
                for block in whole.parents:
                    told = self.assert_needed(one, whole, block)
                    found[told] = found.get(told, 0) + 1
        self.assertGreater(min(found.get(count, 0) for count in [-1, 0, 1, 2, 3]), 3)

    def test_the_heaviest_voters_are_the_fewest(self):
        votes = [(voter, *link) for voter in ["a", "b", "c", "d"] for link in [("root", "a"), ("a", "c")]]
        ballot = ballot_of(LINE, votes, {"a": 1, "b": 1, "c": 2, "d": 4})
        empty = ballot_of({"root": ""}, [], {"a": 1, "b": 1, "c": 2, "d": 4})
        self.assertEqual(needed(empty, ballot, "a"),
                         [("c", "a", "c"), ("c", "root", "a"), ("d", "a", "c"), ("d", "root", "a")])
        part = ballot_of(LINE, [("a", "root", "a"), ("b", "root", "a"), ("c", "a", "c")],
                         {"a": 1, "b": 1, "c": 2, "d": 4})
        self.assertEqual(needed(part, ballot, "a"), [("d", "a", "c"), ("d", "root", "a")])

    def test_of_several_ways_the_one_with_the_fewest_votes(self):
        parents = {"root": "", "a": "root", "b": "a", "c": "b", "d": "b"}
        links = [("root", "a"), ("a", "b"), ("root", "b"), ("b", "c"), ("b", "d")]
        votes = [(voter, *link) for voter in THREE for link in links]
        ballot = ballot_of(parents, votes)
        self.assertEqual(len(needed(ballot_of({"root": ""}, []), ballot, "b")), 4)
        enough = [vote for vote in votes if vote[1:] not in [("root", "b"), ("b", "c")]]
        self.assertEqual(needed(ballot_of(parents, enough), ballot, "b"), [])
        few = [("ann", "root", "a"), ("bob", "root", "a"), ("ann", "a", "b"), ("cy", "b", "d")]
        told = needed(ballot_of(parents, few), ballot, "b")
        self.assertEqual(len(told), 2)
        self.assertEqual({vote[1:] for vote in told}, {("a", "b"), ("b", "d")})

    def test_a_link_that_skips_the_child_makes_nothing_final(self):
        parents = {"root": "", "a": "root", "b": "a", "c": "b"}
        votes = [(voter, *link) for voter in THREE for link in [("root", "a"), ("a", "c")]]
        ballot, view = ballot_of(parents, votes), ballot_of({"root": ""}, [])
        self.assertEqual(final(ballot), ["root"])
        for block in "abc":
            self.assertIsNone(needed(view, ballot, block))
        # The votes for the child count, however many they are.
        more = ballot_of(parents, votes + [("ann", "a", "b"), ("bob", "a", "b"), ("cy", "a", "b")])
        view = ballot_of(parents, [*votes, ("cy", "a", "b")][3:])
        self.assertEqual({vote[1:] for vote in needed(view, more, "a")} - {("root", "a")}, {("a", "b")})

    def test_lists_are_new_on_each_call(self):
        view, ballot = ballot_of({"root": ""}, []), ballot_of()
        for call in [lambda: needed(view, ballot, "a"), lambda: needed(view, ballot, "root"),
                     lambda: missing(view, ballot), lambda: parted(ballot, far())]:
            kept = list(call())
            call().append("more")
            self.assertEqual(call(), kept)

    def test_the_sizes_of_the_limits(self):
        names = [one + other for one in "abcd" for other in "abcdef"]
        voters = ["v" + letter for letter in "abcdefg"]
        for parents in [{name: names[at - 1] if at else "" for at, name in enumerate(names)},
                        {name: names[(at - 1) // 2] if at else "" for at, name in enumerate(names)}]:
            links = [(parents[name], name) for name in names[1:]] + [(names[0], names[3])]
            weights = {voter: Ratio(10 ** 59 + at, 10 ** 59) for at, voter in enumerate(voters)}
            votes = [(voter, *link) for link in links[:20] for voter in voters[1:]]
            ballot = ballot_of(parents, votes, weights)
            view = ballot_of({names[0]: ""}, [], weights)
            for block in final(ballot):
                self.assertEqual(len(needed(view, ballot, block)) > 0, block != names[0])
                self.assertIn(block, final(view_with(view, ballot, needed(view, ballot, block))))
            self.assertEqual(together(view, ballot), ballot)
            both_ways = [*clashes(ballot), *[pair[::-1] for pair in clashes(ballot)]]
            self.assertEqual(parted(ballot, ballot), sorted(both_ways))


if __name__ == "__main__":
    import unittest
    unittest.main()
