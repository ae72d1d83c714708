from random import Random

from finalblocks import goingon
from finalblocks.ballots import Ballot, guilty
from finalblocks.errors import BadChoice, NoVoter
from finalblocks.goingon import bar, going_on, is_bar, is_going_on
from finalblocks.ratios import Ratio
from finalblocks.standing import final, justified
from finalblocks.trees import Tree
from finalblocks.worth import after
from tests import force, model
from tests.checks import Checks
from tests.values import ANY_VALUES, NO_NAMES

LINE = {"root": "", "a": "root", "c": "a"}
THREE = {"ann": 1, "bob": 1, "cy": 1}
BIG = 10 ** 59
VOTES = [(voter, *link) for voter in ["ann", "bob"] for link in [("root", "a"), ("a", "c")]]
NEXT = ([("e", "c")], [("bob", "c", "e"), ("cy", "c", "e")])
NO_VOTERS = ANY_VALUES + NO_NAMES + ["an", "anna", "root", "x"]
CALLS = [going_on, bar, lambda ballot, voters: is_going_on(ballot, voters, None),
         lambda ballot, voters: is_bar(ballot, voters, None)]


def line(votes=VOTES, weights=THREE, share=Ratio(2, 3)):
    return Ballot(Tree(LINE), weights, share, votes)


def honest(case):
    return [voter for voter in case.weights if voter not in case.guilty()]


def some_cases(count, seed):
    """Cases of many kinds; the same on each run."""
    return [*model.cases(2 * count, seed), *force.final_cases(count, seed), *model.clashing_cases(count // 4, seed)]


class Examples(Checks):
    """The examples of the interface."""

    def test_them(self):
        tree = Tree({"root": "", "a": "root", "c": "a"})
        votes = [(voter, source, target) for voter in ["ann", "bob"]
                 for source, target in [("root", "a"), ("a", "c")]]
        ballot = Ballot(tree, {"ann": 1, "bob": 1, "cy": 1}, Ratio(2, 3), votes)
        plan = ([("e", "c")], [("bob", "c", "e"), ("cy", "c", "e")])
        self.assertEqual((is_going_on(ballot, ["bob", "cy"], plan), final(after(ballot, plan)),
                          is_going_on(ballot, ["bob"], plan)), (True, ["a", "c", "root"], False))
        self.assertEqual((is_going_on(ballot, ["bob", "cy"], going_on(ballot, ["bob", "cy"])),
                          going_on(ballot, ["cy"]), bar(ballot, ["cy"]), bar(ballot, ["bob", "cy"])),
                         (True, None, (["a", "c", "root"], []), None))
        lied = ballot.with_vote("ann", "root", "c")
        self.assert_given(BadChoice, "ann", going_on, lied, ["bob", "ann"])

    def test_where_things_stand(self):
        for name in ["going_on", "is_going_on", "bar", "is_bar"]:
            self.assertEqual(getattr(goingon, name).__module__, "finalblocks.goingon", name)

    def test_arguments_by_name(self):
        self.assertIsNone(going_on(ballot=line(), voters=["cy"]))
        self.assertTrue(is_going_on(ballot=line(), voters=["bob", "cy"], value=NEXT))
        self.assertEqual(bar(ballot=line(), voters=["cy"]), (["a", "c", "root"], []))
        self.assertTrue(is_bar(ballot=line(), voters=["cy"], value=(["a", "c", "root"], [])))


class GoingOn(Checks):
    """[28], [29]: either a plan by which some voters go on, or a bar, never both."""

    def assert_one_of_both(self, case, ballot, voters, expected):
        told, shown = going_on(ballot, voters), bar(ballot, voters)
        self.assertIs(told is not None, expected)
        self.assertIs(shown is None, expected)
        if expected:
            self.assertTrue(force.is_going_on(case, voters, told))
            self.assertIs(is_going_on(ballot, voters, told), True)
            self.assertEqual([told.__class__, *[part.__class__ for part in told]], [tuple, list, list])
        else:
            self.assertTrue(force.bars(case, voters).holds(shown))
            self.assertIs(is_bar(ballot, voters, shown), True)
            self.assertEqual([shown.__class__, *[part.__class__ for part in shown]], [tuple, list, list])
            for part in shown:
                self.assertEqual(part, sorted(set(part)))

    def test_random_ballots(self):
        found = {True: 0, False: 0}
        for case in some_cases(50, "both"):
            ballot = case.ballot()
            for voters in force.lots(honest(case)):
                plan = force.next_step(case, voters)
                if plan is not None:
                    self.assertTrue(force.is_going_on(case, voters, plan))
                self.assert_one_of_both(case, ballot, voters, plan is not None)
                self.assert_one_of_both(case, ballot, tuple(voters + voters[:1]), plan is not None)
                found[plan is not None] += 1
        self.assertGreater(min(found.values()), 200)

    def test_all_votes_on_a_small_tree(self):
        found = {True: 0, False: 0}
        small = {"root": "", "a": "root"}
        for parents, grown in [(LINE, {**LINE, "f": "c", "g": "f", "m": "root"}),
                               (small, {**small, "m": "root", "n": "m", "o": "n", "f": "a", "g": "f"})]:
            for case in force.tiny_cases(30, "all votes", parents):
                known = case.final()
                for voters in force.lots(honest(case)):
                    expected = force.by_all_votes(case, grown, [], voters, lambda block: block not in known)
                    self.assertIs(going_on(case.ballot(), voters) is not None, expected)
                    self.assertIs(bar(case.ballot(), voters) is None, expected)
                    found[expected] += 1
        self.assertGreater(min(found.values()), 30)

    def test_values_near_plans(self):
        random, found = Random("near"), {True: 0, False: 0}
        for case in some_cases(24, "near"):
            ballot = case.ballot()
            lots = [lot for lot in force.lots(honest(case)) if force.next_step(case, lot)]
            for voters in random.sample(lots, min(2, len(lots))):
                for value in force.near_plans(random, case, going_on(ballot, voters)):
                    for lot in [voters, voters[1:], honest(case)]:
                        expected = force.is_going_on(case, lot, value)
                        self.assertIs(is_going_on(ballot, lot, value), expected)
                        found[expected] += 1
        self.assertGreater(min(found.values()), 200)

    def test_values_near_bars(self):
        random, found = Random("near bars"), {True: 0, False: 0}
        for case in some_cases(24, "near bars"):
            ballot = case.ballot()
            lots = [lot for lot in force.lots(honest(case)) if not force.next_step(case, lot)]
            for voters in random.sample(lots, min(3, len(lots))):
                closed = force.bars(case, voters)
                for value in force.near_places(closed, bar(ballot, voters)):
                    for lot in [voters, honest(case)]:
                        expected = force.bars(case, lot).holds(value)
                        self.assertIs(is_bar(ballot, lot, value), expected, (lot, value))
                        found[expected] += 1
        self.assertGreater(min(found.values()), 500)

    def test_all_pairs_of_lists_on_a_small_ballot(self):
        found = {True: 0, False: 0}
        for voters in [[], ["cy"], ["ann"], ["bob", "cy"]]:
            closed = force.bars(force.case_of(line()), voters)
            for blocks in force.lots(["root", "a", "c"]):
                for heights in force.lots([0, 1, 2, 3, 4, 5]):
                    expected = closed.holds((blocks, heights))
                    self.assertIs(is_bar(line(), voters, (blocks, heights)), expected, (blocks, heights))
                    found[expected] += 1
        self.assertGreater(min(found.values()), 3)

    def test_what_others_have_voted_for_counts(self):
        # ann is guilty and bob does not vote any more, but their votes stay.
        ballot = line([("ann", "root", "a"), ("ann", "a", "c"), ("ann", "root", "c"), ("bob", "root", "a")])
        self.assertEqual((guilty(ballot), final(ballot), justified(ballot)), (["ann"], ["root"], ["a", "root"]))
        for plan in [([], [("cy", "a", "c")]), going_on(ballot, ["cy"])]:
            self.assertIs(is_going_on(ballot, ["cy"], plan), True)
        self.assertIsNone(bar(ballot, ["cy"]))
        # The votes of a plan are those of the voters alone, also such as are there already.
        for vote in [("bob", "a", "c"), ("bob", "root", "a"), ("ann", "a", "c")]:
            plan = ([], [("cy", "a", "c"), vote])
            self.assertIs(is_going_on(ballot, ["cy"], plan), False)
            self.assertIs(is_going_on(ballot, ["cy", "bob"], plan), vote[0] == "bob")

    def test_none_of_the_voters_is_guilty_afterwards(self):
        # A vote of cy from a to c breaks a rule together with the one from the root to c.
        ballot = line([*VOTES, ("cy", "root", "c")])
        wrong = ([("e", "c")], [("bob", "c", "e"), ("cy", "c", "e"), ("cy", "root", "a"), ("cy", "a", "c")])
        right = ([("e", "c")], [("bob", "c", "e"), ("cy", "c", "e"), ("cy", "root", "a")])
        self.assertIs(is_going_on(ballot, ["bob", "cy"], wrong), False)
        self.assertIs(is_going_on(ballot, ["bob", "cy"], right), True)

    def test_a_new_block_has_to_be_final(self):
        for plan in [([], []), ([("e", "c")], []), ([], [("cy", "root", "a"), ("cy", "a", "c")]),
                     ([("e", "c"), ("f", "e")], [("bob", "c", "f"), ("cy", "c", "f")]),
                     ([("e", "a")], [("cy", "a", "e")])]:
            self.assertIs(is_going_on(line(), ["bob", "cy"], plan), False)

    def test_shares_and_weights_at_the_edge(self):
        for weights, share, voters, expected in [
                (THREE, 1, ["ann", "bob"], False), (THREE, 1, ["ann", "cy", "bob"], True),
                (THREE, Ratio(BIG + 1, 2 * BIG), ["ann", "cy"], True),
                ({"ann": 1, "bob": 1}, Ratio(BIG + 1, 2 * BIG), ["ann"], False),
                ({"ann": BIG + 1, "bob": BIG - 1}, Ratio(BIG + 1, 2 * BIG), ["ann"], True),
                ({"ann": BIG + 1, "bob": BIG - 1}, Ratio(BIG + 1, 2 * BIG), ["bob"], False),
                ({"ann": BIG, "bob": BIG}, Ratio(BIG + 1, 2 * BIG), ["ann"], False),
                ({"ann": 2, "bob": 1}, Ratio(2, 3), ["ann"], True),
                ({"ann": Ratio(199, 100), "bob": 1}, Ratio(2, 3), ["ann"], False),
                ({"ann": 2, "bob": 1}, Ratio(2 * BIG + 1, 3 * BIG), ["ann"], False),
                ({"ann": 2, "bob": 1}, Ratio(2 * BIG - 1, 3 * BIG), ["ann"], True)]:
            for votes in [[], [("ann", "root", "a")]]:
                ballot = line(votes, weights, share)
                self.assert_one_of_both(force.case_of(ballot), ballot, voters, expected)

    def test_a_list_without_voters(self):
        self.assertIsNone(going_on(line(), []))
        self.assertEqual(bar(line(), []), (["a", "c", "root"], []))
        self.assertEqual(bar(line([]), ()), (["root"], []))
        self.assertIs(is_going_on(line(), [], ([], [])), False)

    def test_a_tree_of_the_root_alone(self):
        ballot = Ballot(Tree({"r": ""}), {"ann": 1}, 1)
        plan = going_on(ballot, ["ann"])
        self.assertIs(is_going_on(ballot, ["ann"], plan), True)
        self.assertEqual(len(final(after(ballot, plan))), 2)
        self.assertEqual(bar(ballot, []), (["r"], []))
        for value, expected in [((["r"], [1]), True), ((["r"], [2]), True), ((["r"], [3]), False), (([], []), False)]:
            self.assertIs(is_bar(ballot, [], value), expected)

    def test_values_of_every_kind(self):
        closed = force.bars(force.case_of(line()), ["cy"])
        for value in ANY_VALUES + [NEXT[0], NEXT[1], list(NEXT)]:
            for told in [value, (value, []), ([], value), ([value], []), ([], [value]), (value, value),
                         (["root", value], []), (["root", "a", "c"], [value]), (["root"], value), (value, [1])]:
                self.assertIs(is_going_on(line(), ["bob", "cy"], told), False)
                self.assertIs(is_bar(line(), ["cy"], told), closed.holds(told), told)

    def test_the_ballot_and_the_lists_stay_as_they_were(self):
        ballot, voters = line(), ["bob", "cy"]
        for call in [going_on, bar]:
            told = call(ballot, voters)
            self.assertEqual(told, call(ballot, voters))
            if told:
                told[0].append("more")
                self.assertNotEqual(told, call(ballot, voters))
        self.assertEqual((ballot, voters), (line(), ["bob", "cy"]))

    def test_the_sizes_of_the_limits(self):
        names = [one + other for one in "abcd" for other in "abcdef"]
        voters = ["v" + letter for letter in "abcdefg"]
        random = Random("sizes")
        for share in [Ratio(2, 3), 1]:
            for parents in [{name: names[at - 1] if at else "" for at, name in enumerate(names)},
                            {name: names[(at - 1) // 2] if at else "" for at, name in enumerate(names)}]:
                links = model.all_links(parents)
                votes = {(random.choice(voters), *random.choice(links)) for _ in range(30)}
                votes |= {(voter, names[0], names[1]) for voter in voters}
                ballot = Ballot(Tree(parents), {voter: Ratio(BIG + 7, BIG) for voter in voters}, share, list(votes))
                mine = [voter for voter in voters if voter not in guilty(ballot)]
                plan, shown = going_on(ballot, mine), bar(ballot, mine)
                self.assertIs(plan is None, shown is not None)
                self.assertIs(is_going_on(ballot, mine, plan), plan is not None)
                self.assertIs(is_bar(ballot, mine, shown), shown is not None)


class MainStatement(Checks):
    """[5]: voters who have kept the rules, and have voted from justified sources alone, can always go on."""

    def test_it(self):
        found = 0
        for case in some_cases(80, "always"):
            ballot = case.ballot()
            known = case.justified()
            good = [voter for voter in honest(case)
                    if all(vote[1] in known for vote in case.votes if vote[0] == voter)]
            for voters in force.lots(good):
                if case.weight_of(voters) >= case.share * case.whole():
                    self.assertIsNotNone(going_on(ballot, voters))
                    self.assertIsNone(bar(ballot, voters))
                    found += 1
        self.assertGreater(found, 50)

    def test_sources_that_are_not_justified_can_bar_them(self):
        parents = {"root": "", "a": "root", "c": "a", "d": "c"}
        votes = [("ann", "root", "c"), ("ann", "c", "d"), ("bob", "a", "c")]
        ballot = Ballot(Tree(parents), {"ann": 1, "bob": 1}, 1, votes)
        self.assertEqual((guilty(ballot), justified(ballot)), ([], ["root"]))
        self.assertIsNone(going_on(ballot, ["ann", "bob"]))
        self.assertEqual(bar(ballot, ["ann", "bob"]), (["a", "root"], [1]))
        # Without one of the sources that are not justified they can go on.
        for vote in [("ann", "c", "d"), ("bob", "a", "c")]:
            fewer = Ballot(Tree(parents), {"ann": 1, "bob": 1}, 1, [other for other in votes if other != vote])
            self.assertIsNotNone(going_on(fewer, ["ann", "bob"]))

    def test_they_go_on_and_on(self):
        for case in force.final_cases(6, "on and on"):
            ballot = case.ballot()
            voters = [voter for voter in ballot.voters() if not ballot.votes_of(voter)]
            if Ratio(1) <= ballot.weight_of(voters).over(ballot.whole()).over(ballot.share()):
                for _ in range(5):
                    plan = going_on(ballot, voters)
                    later = after(ballot, plan)
                    self.assertGreater(len(final(later)), len(final(ballot)))
                    ballot = later


class Errors(Checks):
    """[28], [29]: NoVoter, then BadChoice."""

    def test_no_voter(self):
        for value in NO_VOTERS:
            for call in CALLS:
                self.assert_given(NoVoter, value, call, line(), [value])
                self.assert_given(NoVoter, value, call, line(), ("ann", value, "dot"))
                self.assert_given(NoVoter, "dot", call, line(), ["dot", value])

    def test_guilty_voters(self):
        lied = line([*VOTES, ("ann", "root", "c"), ("cy", "root", "a"), ("cy", "a", "c"), ("cy", "root", "c")])
        self.assertEqual(guilty(lied), ["ann", "cy"])
        for call in CALLS:
            for voters, first in [(["ann"], "ann"), (["bob", "ann"], "ann"), (["cy", "ann"], "cy"),
                                  (["bob", "cy", "cy", "ann"], "cy"), (("ann", "cy"), "ann")]:
                self.assert_given(BadChoice, first, call, lied, voters)
            # NoVoter comes ahead of BadChoice.
            for value in NO_VOTERS:
                self.assert_given(NoVoter, value, call, lied, ["ann", value])


if __name__ == "__main__":
    import unittest
    unittest.main()
