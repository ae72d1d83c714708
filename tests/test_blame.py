import inspect
from fractions import Fraction
from itertools import permutations, product

from finalblocks import blame as blame_file
from finalblocks.ballots import Ballot, guilty
from finalblocks.blame import blame, clashes, crossing, is_blame, is_crossing
from finalblocks.errors import NoBlock, NotFinal
from finalblocks.ratios import Ratio
from finalblocks.standing import final
from finalblocks.trees import Tree
from tests import model
from tests.checks import Checks
from tests.values import ANY_VALUES, FIT_FOR_KEYS, same

FORK = {"root": "", "a": "root", "b": "root", "c": "a", "d": "b"}
# A tree with two long branches, and voters for links on both.
WIDE = {"root": "", "a": "root", "b": "a", "c": "b", "d": "c", "m": "root", "n": "m", "o": "n", "p": "o"}
THREE = {"ann": 1, "bob": 1, "cy": 1}
NO_BLOCKS = [value for value in ANY_VALUES if not same(value, "a")] + ["gone", "roo", "A"]


def votes_for(voters, *pairs):
    return [(voter, *link) for voter in voters for link in pairs]


def fork(votes=None):
    """A ballot with the final blocks a and b, which bob alone has voted for both."""
    split = votes_for(["ann", "bob"], ("root", "a"), ("a", "c")) + votes_for(["bob", "cy"], ("root", "b"), ("b", "d"))
    return Ballot(Tree(FORK), THREE, Ratio(2, 3), split if votes is None else votes)


def case_of(ballot):
    """The plain parts of a ballot."""
    tree = ballot.tree()
    weights = {voter: model.fraction(ballot.weight(voter)) for voter in ballot.voters()}
    parents = {block: tree.parent(block) for block in tree.blocks()}
    return model.Case(parents, weights, model.fraction(ballot.share()), ballot.votes())


def is_crossing_of(case, value):
    """Whether a value is a crossing, as [22] tells it."""
    return isinstance(value, tuple) and any(value == pair for pair in case.crossings())


def is_blame_of(case, value):
    """Whether a value is a blame, as [23] tells it."""
    if not isinstance(value, dict) or not all(isinstance(key, str) and key in case.weights for key in value):
        return False
    if not all(isinstance(told, tuple) and any(told == pair for pair in case.pairs(key))
               for key, told in value.items()):
        return False
    return case.weight_of(value) >= case.least_blame()


class Examples(Checks):
    """The examples of the interface."""

    def test_them(self):
        tree = Tree({"root": "", "a": "root", "b": "root", "c": "a", "d": "b"})
        votes = [(voter, source, target) for voter in ["ann", "bob"]
                 for source, target in [("root", "a"), ("a", "c")]]
        more = [(voter, source, target) for voter in ["bob", "cy"]
                for source, target in [("root", "b"), ("b", "d")]]
        ballot = Ballot(tree, {"ann": 1, "bob": 1, "cy": 1}, Ratio(2, 3), [*votes, *more])
        self.assertEqual(
            (final(ballot), clashes(ballot), is_crossing(ballot, (("root", "a"), ("root", "b"))),
             is_crossing(ballot, (("root", "a"), ("b", "d")))),
            (["a", "b", "root"], [("a", "b")], True, False))
        self.assertEqual(
            (list(blame(ballot, "a", "b")), is_blame(ballot, {"bob": (("bob", "a", "c"), ("bob", "b", "d"))}),
             is_blame(ballot, {})),
            (["bob"], True, False))
        self.assertEqual(
            (is_crossing(ballot, crossing(ballot, "b", "a")), is_blame(ballot, blame(ballot, "a", "b"))),
            (True, True))
        with self.assertRaises(NotFinal):
            crossing(ballot, "a", "c")

    def test_where_things_stand(self):
        for name in ["clashes", "crossing", "is_crossing", "blame", "is_blame"]:
            self.assertEqual(getattr(blame_file, name).__module__, "finalblocks.blame", name)

    def test_arguments_by_name(self):
        ballot = fork()
        self.assertEqual(clashes(ballot=ballot), [("a", "b")])
        self.assertTrue(is_crossing(ballot=ballot, value=crossing(ballot=ballot, one="a", other="b")))
        self.assertTrue(is_blame(ballot=ballot, value=blame(ballot=ballot, one="a", other="b")))
        self.assertEqual(list(inspect.signature(clashes).parameters), ["ballot"])


class Clashes(Checks):
    """[21]: final blocks that are against one another."""

    def test_ballots_without_any(self):
        for votes in [[], votes_for(["ann", "bob"], ("root", "a"), ("a", "c")),
                      votes_for(THREE, ("root", "a"), ("root", "b")), votes_for(THREE, ("a", "c"), ("b", "d")),
                      votes_for(THREE, ("root", "a"), ("a", "c"), ("root", "b"), ("root", "d"))]:
            self.assertEqual(clashes(fork(votes)), [])

    def test_all_pairs_in_order(self):
        parents = {"r": "", "z": "r", "y": "z", "x": "y", "b": "r", "ab": "b", "a": "ab", "m": "r", "aa": "m"}
        links = [(parent, block) for block, parent in parents.items() if parent]
        ballot = Ballot(Tree(parents), THREE, 1, votes_for(THREE, *links))
        self.assertEqual(final(ballot), ["ab", "b", "m", "r", "y", "z"])
        self.assertEqual(clashes(ballot), [("ab", "m"), ("ab", "y"), ("ab", "z"), ("b", "m"), ("b", "y"), ("b", "z"),
                                           ("m", "y"), ("m", "z")])

    def test_random_ballots(self):
        found = {True: 0, False: 0}
        for case in [*model.cases(200, "clashes"), *model.clashing_cases(80, "clashes")]:
            told = clashes(case.ballot())
            self.assertEqual(told, case.clashes())
            self.assertTrue(all(pair.__class__ is tuple for pair in told))
            found[told != []] += 1
        self.assertGreater(min(found.values()), 50)

    def test_lists_are_new_on_each_call(self):
        ballot = fork()
        clashes(ballot).append("more")
        self.assertEqual(clashes(ballot), [("a", "b")])


class Crossings(Checks):
    """[22]: two supported links that break a rule."""

    def assert_crossed(self, ballot):
        """There is a crossing and a blame for each clash, both ways round; the number of the clashes."""
        case = case_of(ballot)
        for pair in case.clashes():
            for one, other in [pair, pair[::-1]]:
                told, shown = crossing(ballot, one, other), blame(ballot, one, other)
                self.assertTrue(is_crossing_of(case, told))
                self.assertIs(is_crossing(ballot, told), True)
                self.assertTrue(is_blame_of(case, shown))
                self.assertIs(is_blame(ballot, shown), True)
        return len(case.clashes())

    def test_by_twice_at_the_blocks_themselves(self):
        self.assertEqual(self.assert_crossed(fork()), 1)

    def test_by_twice_at_a_child(self):
        # No other link ends as high as the one to a, but one as high as the one from a to its child.
        ballot = Ballot(Tree(WIDE), THREE, Ratio(2, 3), [
            *votes_for(["ann", "bob"], ("root", "a"), ("a", "b")),
            *votes_for(["cy", "bob"], ("root", "n"), ("n", "o"), ("o", "p"))])
        self.assertEqual(clashes(ballot), [("a", "n"), ("a", "o")])
        self.assertEqual(self.assert_crossed(ballot), 2)
        self.assertEqual(set(crossing(ballot, "a", "o")), {("a", "b"), ("root", "n")})

    def test_by_around(self):
        # The link from the root to o goes around the one from a to b, and no two targets have the same height.
        ballot = Ballot(Tree(WIDE), THREE, Ratio(2, 3), [
            *votes_for(["ann", "bob"], ("root", "a"), ("a", "b")), *votes_for(["cy", "bob"], ("root", "o"), ("o", "p"))])
        self.assertEqual(final(ballot), ["a", "o", "root"])
        self.assertEqual(self.assert_crossed(ballot), 1)
        for one, other in [("a", "o"), ("o", "a")]:
            self.assertEqual(set(crossing(ballot, one, other)), {("a", "b"), ("root", "o")})
            self.assertEqual(list(blame(ballot, one, other)), ["bob"])
        self.assertIs(is_crossing(ballot, (("root", "o"), ("a", "b"))), True)
        self.assertIs(is_crossing(ballot, (("root", "o"), ("root", "a"))), False)
        self.assertIs(is_crossing(ballot, (("a", "b"), ("o", "p"))), False)

    def test_random_ballots(self):
        found = 0
        for case in [*model.clashing_cases(150, "crossings"), *model.cases(100, "crossings")]:
            found += self.assert_crossed(case.ballot())
        self.assertGreater(found, 150)

    def test_no_block(self):
        ballot = fork()
        for function in [crossing, blame]:
            for value in NO_BLOCKS:
                for block in FORK:
                    # Also with blocks that are not final: NoBlock comes ahead of NotFinal.
                    self.assert_given(NoBlock, value, function, ballot, value, block)
                    self.assert_given(NoBlock, value, function, ballot, block, value)
                self.assert_given(NoBlock, value, function, ballot, value, "nope")
                self.assert_given(NoBlock, "nope", function, ballot, "nope", value)
                self.assert_given(NoBlock, value, function, fork([]), "c", value)

    def test_not_final(self):
        right = [("a", "b"), ("b", "a")]
        for function in [crossing, blame]:
            for one, other in product(FORK, FORK):
                if (one, other) not in right:
                    with self.assertRaises(NotFinal):
                        function(fork(), one, other)
                with self.assertRaises(NotFinal):
                    function(fork([]), one, other)

    def test_one_of_the_two_is_not_final(self):
        ballot = fork(votes_for(THREE, ("root", "a"), ("a", "c"), ("root", "b")))
        for function, (one, other) in product([crossing, blame], [("a", "b"), ("b", "a"), ("c", "b"), ("a", "d")]):
            with self.assertRaises(NotFinal):
                function(ballot, one, other)

    def test_random_blocks_that_are_not_both_final_and_against_one_another(self):
        for case in [*model.cases(30, "not final"), *model.clashing_cases(20, "not final")]:
            ballot = case.ballot()
            wrong = [pair for pair in product(case.parents, case.parents) if tuple(sorted(pair)) not in case.clashes()]
            for function, pair in product([crossing, blame], wrong):
                with self.assertRaises(NotFinal):
                    function(ballot, *pair)


class IsCrossing(Checks):
    """[22]: is_crossing, and the main statement."""

    def test_each_two_links(self):
        found = {True: 0, False: 0}
        for case in [*model.clashing_cases(25, "each two"), *model.cases(20, "each two")]:
            ballot = case.ballot()
            for pair in product(model.all_links(case.parents), repeat=2):
                expected = is_crossing_of(case, pair)
                self.assertIs(is_crossing(ballot, pair), expected)
                found[expected] += 1
        self.assertGreater(min(found.values()), 100)

    def test_without_any_clash(self):
        ballot = fork(votes_for(THREE, ("root", "a"), ("root", "b")))
        self.assertIs(is_crossing(ballot, (("root", "a"), ("root", "b"))), True)
        ballot = fork(votes_for(THREE, ("a", "c"), ("b", "d")))
        self.assertIs(is_crossing(ballot, (("a", "c"), ("b", "d"))), True)

    def test_links_that_are_not_supported(self):
        ballot = fork([*votes_for(["ann", "bob"], ("root", "a")), ("cy", "root", "b"), ("cy", "root", "d")])
        for one, other in permutations([("root", "a"), ("root", "b"), ("root", "d"), ("root", "c")], 2):
            self.assertIs(is_crossing(ballot, (one, other)), False)

    def test_a_link_does_not_cross_itself(self):
        for link in [("root", "a"), ("a", "c"), ("root", "b")]:
            self.assertIs(is_crossing(fork(), (link, link)), False)

    def test_values_near_a_crossing(self):
        one, other = ("root", "a"), ("root", "b")
        for value in [
                [one, other], [(one, other)], ((one, other),), (one,), (one, other, one), (list(one), other),
                (one, list(other)), (one[::-1], other[::-1]), (("ann", *one), ("ann", *other)), (*one, *other),
                {one: other}, {"one": one, "other": other}, (one, other[:1]), (one, (*other, "")), "ab",
                (("root", "root"), other), (one, ("root", "gone")), (one, None), (None, other), ((), ()), (), [], None]:
            self.assertIs(is_crossing(fork(), value), False, value)

    def test_values_of_every_kind(self):
        one, other = ("root", "a"), ("root", "b")
        self.assertIs(is_crossing(fork(), (one, other)), True)
        for value in ANY_VALUES:
            for told in [value, (value, value), [value, value], (one, value), (value, other), (one, (value, "b")),
                         (one, ("root", value)), ((value, "a"), other), (one, other, value)]:
                self.assertIs(is_crossing(fork(), told), False, told)

    def test_the_voters_for_both_links_are_guilty_and_many(self):
        found = 0
        for case in [*model.clashing_cases(60, "many"), *model.cases(100, "many")]:
            ballot = case.ballot()
            for one, other in case.crossings():
                self.assertIs(is_crossing(ballot, (one, other)), True)
                both = [voter for voter in case.weights
                        if {(voter, *one), (voter, *other)} <= set(case.votes)]
                self.assertLessEqual(set(both), set(guilty(ballot)))
                weight = model.fraction(ballot.weight_of(both))
                self.assertGreaterEqual(weight, (2 * case.share - 1) * case.whole())
                found += 1
        self.assertGreater(found, 200)


class Blames(Checks):
    """[23]: blame and is_blame."""

    def test_each_blame_weighs_enough(self):
        least = 0
        for case in model.clashing_cases(150, "blames"):
            ballot = case.ballot()
            for pair in case.clashes():
                told = blame(ballot, *pair)
                self.assertIs(told.__class__, dict)
                self.assertLessEqual(set(told), set(guilty(ballot)))
                self.assertGreaterEqual(case.weight_of(told), case.least_blame())
                least += case.weight_of(told) == case.least_blame()
                for voter, votes in told.items():
                    self.assertIn(votes, case.pairs(voter))
        # Some weigh just what is needed.
        self.assertGreater(least, 10)

    def test_dicts_are_new_on_each_call(self):
        ballot = fork()
        blame(ballot, "a", "b").clear()
        self.assertEqual(list(blame(ballot, "a", "b")), ["bob"])

    def test_all_who_are_to_blame(self):
        ballot = Ballot(Tree(FORK), {**THREE, "dot": 1}, Ratio(3, 4), [
            *votes_for(["ann", "bob", "cy"], ("root", "a"), ("a", "c")),
            *votes_for(["bob", "cy", "dot"], ("root", "b"), ("b", "d"))])
        self.assertEqual(sorted(blame(ballot, "a", "b")), ["bob", "cy"])

    def test_each_two_votes_of_the_voter_show_it(self):
        case = case_of(fork())
        votes = case.votes
        self.assertEqual(case.guilty(), ["bob"])
        found = {True: 0, False: 0}
        for voter, one, other in product(THREE, votes, votes):
            value = {voter: (one, other)}
            expected = is_blame_of(case, value)
            self.assertIs(is_blame(fork(), value), expected, value)
            found[expected] += 1
        # Two pairs of targets have the same height, each both ways round.
        self.assertEqual(found, {True: 4, False: 3 * 64 - 4})

    def test_just_enough_and_just_too_little(self):
        votes = votes_for(["ann", "bob", "cy"], ("root", "a"), ("root", "b"))
        proofs = {voter: ((voter, "root", "a"), (voter, "root", "b")) for voter in THREE}
        for share, weights, voters, expected in [
                (Ratio(2, 3), THREE, ["ann"], True), (Ratio(2, 3), THREE, [], False),
                (Ratio(2 * 10 ** 59 + 1, 3 * 10 ** 59), THREE, ["ann"], False),
                (Ratio(3, 4), THREE, ["ann"], False), (Ratio(3, 4), THREE, ["cy", "bob"], True),
                (1, THREE, ["ann", "bob"], False), (1, THREE, ["ann", "cy", "bob"], True),
                (Ratio(3, 4), {"ann": 2, "bob": 1, "cy": 1}, ["ann"], True),
                (Ratio(3, 4), {"ann": 2, "bob": 1, "cy": 1}, ["cy"], False),
                (Ratio(3, 4), {"ann": 2, "bob": 1, "cy": Ratio(99, 100)}, ["ann"], True),
                (Ratio(3, 4), {"ann": 2, "bob": 1, "cy": Ratio(101, 100)}, ["ann"], False),
                (Ratio(10 ** 59 + 1, 2 * 10 ** 59), THREE, ["cy"], True),
                (Ratio(10 ** 59 + 1, 2 * 10 ** 59), THREE, [], False)]:
            ballot = Ballot(Tree(FORK), weights, share, votes)
            value = {voter: proofs[voter] for voter in voters}
            self.assertIs(is_blame(ballot, value), expected, (share, voters))
            self.assertIs(is_blame_of(case_of(ballot), value), expected)

    def test_a_blame_may_name_more_voters_than_are_needed(self):
        ballot = Ballot(Tree(FORK), THREE, Ratio(2, 3), votes_for(THREE, ("root", "a"), ("root", "b")))
        right = {voter: ((voter, "root", "b"), (voter, "root", "a")) for voter in THREE}
        self.assertIs(is_blame(ballot, right), True)
        # But each of them has to be guilty by just the two votes that it tells.
        for wrong in [(("ann", "root", "a"), ("ann", "root", "a")), (("bob", "root", "a"), ("bob", "root", "b")), None]:
            self.assertIs(is_blame(ballot, {**right, "ann": wrong}), False)
        self.assertIs(is_blame(ballot, {**right, "dot": (("dot", "root", "a"), ("dot", "root", "b"))}), False)

    def test_a_blame_without_any_clash(self):
        ballot = fork([*votes_for(["ann"], ("root", "a"), ("root", "b")), ("bob", "root", "c")])
        self.assertEqual(clashes(ballot), [])
        self.assertIs(is_blame(ballot, {"ann": (("ann", "root", "a"), ("ann", "root", "b"))}), True)

    def test_values_near_a_blame(self):
        one, other = ("bob", "root", "a"), ("bob", "root", "b")
        self.assertIs(is_blame(fork(), {"bob": (one, other)}), True)
        self.assertIs(is_blame(fork(), {"bob": (other, one)}), True)
        for value in [
                {}, {"bob": [one, other]}, {"bob": (list(one), other)}, {"bob": (one, list(other))}, {"bob": (one,)},
                {"bob": (one, other, other)}, {"bob": (one, one)}, {"bob": ()}, {"bob": None}, {"bob": one},
                {"ann": (one, other)}, {"bo": (one, other)}, {"Bob": (one, other)}, {("bob",): (one, other)},
                {None: (one, other)}, {"bob": (one[1:], other[1:])}, {"bob": {one: other}}, {"bob": "ab"},
                {"bob": (("ann", *one[1:]), other)}, {"bob": (one, ("bob", "root", "c"))}, {"bob": (one, ("bob", "b"))},
                {"bob": (one, (*other, ""))}, {"bob": (one, ("bob", "b", "d"))}, {"bob": (one, other), "ann": ()},
                {"cy": (("cy", "root", "a"), ("cy", "root", "b"))}, [("bob", (one, other))], ("bob", (one, other)),
                [{"bob": (one, other)}], ({"bob": (one, other)},), ["bob"], ("bob",), "bob", (one, other), None, True]:
            self.assertIs(is_blame(fork(), value), False, value)

    def test_values_of_every_kind(self):
        case = case_of(fork())
        one, other = ("bob", "root", "a"), ("bob", "root", "b")
        for value in ANY_VALUES:
            for told in [value, [value], (value, value), {"bob": value}, {"bob": (value, value)}, {"bob": (one, value)},
                         {"bob": (value, other)}, {"bob": (one, (value, "root", "b"))},
                         {"bob": (one, ("bob", value, "b"))}, {"bob": (one, ("bob", "root", value))},
                         {"bob": (one, other), "ann": value}, {"bob": (one, other, value)}]:
                self.assertIs(is_blame(fork(), told), False, told)
        for key in FIT_FOR_KEYS:
            for told in [{key: (one, other)}, {key: key}, {"bob": (one, other), key: (one, other)}]:
                self.assertIs(is_blame(fork(), told), is_blame_of(case, told))
                self.assertIs(is_blame(fork(), told), False)

    def test_random_dicts(self):
        found = {True: 0, False: 0}
        for case in [*model.clashing_cases(60, "dicts"), *model.cases(120, "dicts")]:
            ballot = case.ballot()
            for count in range(len(case.weights) + 1):
                for voters in list(permutations(case.guilty(), count))[:8]:
                    pairs = {voter: case.pairs(voter) for voter in voters}
                    value = {voter: pairs[voter][count % len(pairs[voter])] for voter in voters}
                    expected = is_blame_of(case, value)
                    self.assertIs(is_blame(ballot, value), expected)
                    found[expected] += 1
        self.assertGreater(min(found.values()), 100)

    def test_a_value_stays_as_it_was(self):
        value = {"bob": (("bob", "root", "a"), ("bob", "root", "b"))}
        is_blame(fork(), value)
        self.assertEqual(value, {"bob": (("bob", "root", "a"), ("bob", "root", "b"))})


class MainStatements(Checks):
    """[5]: two final blocks against one another cost many voters their innocence."""

    def test_the_guilty_have_enough_weight(self):
        found = 0
        for case in [*model.clashing_cases(120, "enough"), *model.cases(120, "enough")]:
            ballot = case.ballot()
            if clashes(ballot):
                weight = model.fraction(ballot.weight_of(guilty(ballot)))
                self.assertGreaterEqual(weight, (2 * case.share - 1) * case.whole())
                self.assertGreater(weight, Fraction(0))
                found += 1
        self.assertGreaterEqual(found, 120)

    def test_without_guilty_voters_there_is_no_clash(self):
        found = 0
        for case in model.cases(300, "no clash"):
            if not case.guilty():
                self.assertEqual(clashes(case.ballot()), [])
                found += 1
        self.assertGreater(found, 50)

    def test_clashes_and_crossings_stay(self):
        for case in model.clashing_cases(40, "stay"):
            ballot = case.ballot()
            kept = clashes(ballot)
            shown = [crossing(ballot, *pair) for pair in kept]
            blames = [blame(ballot, *pair) for pair in kept]
            for vote in model.further_votes(case, 5):
                ballot = ballot.with_vote(*vote).with_block("n" + "abcdef"[len(ballot.tree()) - len(case.parents)],
                                                            vote[1])
                self.assertLessEqual(set(kept), set(clashes(ballot)))
                self.assertTrue(all(is_crossing(ballot, value) for value in shown))
                self.assertTrue(all(is_blame(ballot, value) for value in blames))
