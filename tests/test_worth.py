import inspect
from itertools import permutations
from random import Random

from finalblocks import worth as worth_file
from finalblocks.ballots import Ballot, guilty
from finalblocks.errors import BadPaper, NoBlock, NoVoter, NotFinal
from finalblocks.ratios import Ratio
from finalblocks.standing import final
from finalblocks.trees import Tree
from finalblocks.worth import after, attack_by, is_attack, is_plan, least_attack, wall, wall_holds, worth
from tests import force, model
from tests.checks import Checks
from tests.values import ANY_VALUES, NO_NAMES, same

LINE = {"root": "", "a": "root", "c": "a"}
THREE = {"ann": 1, "bob": 1, "cy": 1}
TWO_THIRDS = Ratio(2, 3)
VOTES = [(voter, *link) for voter in ["ann", "bob"] for link in [("root", "a"), ("a", "c")]]
FORK_PLAN = ([("e", "root"), ("f", "e")],
             [("ann", "root", "e"), ("cy", "root", "e"), ("ann", "e", "f"), ("cy", "e", "f")])
NO_BLOCKS = [value for value in ANY_VALUES if not same(value, "a")] + ["gone", "roo", "A", "e"]
NO_VOTERS = ANY_VALUES + NO_NAMES + ["an", "anna", "root", "x"]


def line(votes=VOTES, weights=THREE, share=TWO_THIRDS):
    """A ballot in which a is final if nothing else is said."""
    return Ballot(Tree(LINE), weights, share, votes)


def some_lots(random, case):
    """Lists of voters: none, all, some, some twice, those who are guilty."""
    names = list(case.weights)
    yield from [[], names, case.guilty(), names + names[:1]]
    for _ in range(4):
        yield random.choices(names, k=random.randrange(1, len(names) + 1))


class Examples(Checks):
    """The examples of the interface."""

    def test_them(self):
        tree = Tree({"root": "", "a": "root", "c": "a"})
        votes = [(voter, source, target) for voter in ["ann", "bob"]
                 for source, target in [("root", "a"), ("a", "c")]]
        ballot = Ballot(tree, {"ann": 1, "bob": 1, "cy": 1}, Ratio(2, 3), votes)
        self.assertEqual((worth(ballot, "a").text(), attack_by(ballot, "a", []), wall(ballot, "a", []),
                          wall(ballot, "a", ["ann"]), worth(ballot, "root")), ("1", None, (["root"], []), None, None))
        plan = ([("e", "root"), ("f", "e")],
                [("ann", "root", "e"), ("cy", "root", "e"), ("ann", "e", "f"), ("cy", "e", "f")])
        self.assertEqual((is_attack(ballot, "a", ["ann"], plan), is_attack(ballot, "a", [], plan),
                          guilty(after(ballot, plan)), final(after(ballot, plan))),
                         (True, False, ["ann"], ["a", "e", "root"]))
        self.assertEqual((is_attack(ballot, "a", ["bob"], attack_by(ballot, "a", ["bob"])),
                          len(least_attack(ballot, "a")[0]), is_plan(ballot, ([("e", "d")], []))), (True, 1, False))
        with self.assertRaises(NotFinal):
            worth(ballot, "c")

    def test_where_things_stand(self):
        for name in ["is_plan", "after", "attack_by", "is_attack", "wall", "wall_holds", "worth", "least_attack"]:
            self.assertEqual(getattr(worth_file, name).__module__, "finalblocks.worth", name)

    def test_arguments_by_name(self):
        ballot = line()
        self.assertTrue(is_plan(ballot=ballot, value=FORK_PLAN))
        self.assertEqual(guilty(after(ballot=ballot, plan=FORK_PLAN)), ["ann"])
        self.assertIsNone(attack_by(ballot=ballot, block="a", voters=[]))
        self.assertTrue(is_attack(ballot=ballot, block="a", voters=["ann"], value=FORK_PLAN))
        self.assertEqual(wall(ballot=ballot, block="a", voters=[]), (["root"], []))
        self.assertTrue(wall_holds(ballot=ballot, block="a", voters=[], value=(["root"], [])))
        self.assertEqual(worth(ballot=ballot, block="a"), 1)
        for function in [worth, least_attack]:
            self.assertEqual(list(inspect.signature(function).parameters), ["ballot", "block"])


class Plans(Checks):
    """[24]: what a plan is, and the ballot after it."""

    def assert_plan(self, value, ballot=None):
        ballot = ballot or line()
        case = force.case_of(ballot)
        before = (ballot.tree().text(), ballot.votes())
        self.assertIs(is_plan(ballot, value), True, value)
        later, expected = after(ballot, value), force.after(case, value)
        self.assertEqual(later, expected.ballot())
        self.assertEqual(later.votes(), sorted(set(expected.votes)))
        self.assertEqual((ballot.tree().text(), ballot.votes()), before)

    def assert_no_plan(self, value, ballot=None):
        ballot = ballot or line()
        self.assertIsNone(force.after(force.case_of(ballot), value))
        self.assertIs(is_plan(ballot, value), False, value)
        self.assert_given(BadPaper, value, after, ballot, value)

    def test_plans(self):
        for blocks, votes in [
                ([], []), ([("e", "root")], []), ([("e", "a"), ("f", "e"), ("g", "e"), ("h", "g")], []),
                ([], [("ann", "a", "c")]), ([], [("cy", "root", "a")]), ([], [("cy", "root", "c")]),
                ([("e", "c")], [("bob", "a", "e")]), ([("abcdefgh", "c")], [("bob", "c", "abcdefgh")]),
                ([("e", "c"), ("f", "e")], [("bob", "e", "f"), ("bob", "root", "f"), ("ann", "a", "e")]),
                ([], [("cy", "a", "c"), ("cy", "a", "c")]), ([("ann", "a")], [("ann", "root", "ann")]),
                ([], [("ann", "root", "a"), ("ann", "root", "c")])]:
            self.assert_plan((blocks, votes))
            self.assert_plan((tuple(blocks), votes))
            self.assert_plan((blocks, tuple(votes)))

    def test_votes_given_twice_count_once(self):
        later = after(line(), ([], [("cy", "a", "c"), ("cy", "a", "c"), ("ann", "a", "c")]))
        self.assertEqual(later.votes(), sorted([*VOTES, ("cy", "a", "c")]))
        self.assertEqual(after(line(), ([], VOTES)), line())
        self.assertEqual(after(line(), ((), ())), line())

    def test_blocks_that_cannot_be_added(self):
        for blocks in [[("e", "d")], [("f", "e"), ("e", "root")], [("e", "e")], [("a", "root")], [("root", "a")],
                       [("e", "root"), ("e", "root")], [("e", "root"), ("e", "a")], [("e", "")], [("c", "a")]]:
            self.assert_no_plan((blocks, []))
            self.assert_no_plan(([("x", "c"), *blocks], []))
        for value in NO_NAMES + ANY_VALUES:
            if not same(value, "a"):
                self.assert_no_plan(([(value, "a")], []))
        for value in NO_BLOCKS:
            self.assert_no_plan(([("f", value)], []))

    def test_votes_that_are_none(self):
        for vote in [("ann", "e", "f"), ("ann", "f", "f"), ("ann", "f", "c"), ("ann", "c", "a"), ("ann", "a", "a"),
                     ("dot", "root", "a"), ("ann", "root"), ("ann", "root", "a", "c"), ["ann", "root", "a"],
                     ("", "root", "a"), ("root", "a"), "abc", ()]:
            self.assert_no_plan(([("f", "c")], [vote]))
            self.assert_no_plan(([("f", "c")], [("ann", "c", "f"), vote]))
            self.assert_no_plan(([("f", "c")], [vote, ("ann", "c", "f")]))
        # The block of a vote has to be in the tree or in the plan.
        self.assert_plan(([("f", "c")], [("ann", "c", "f")]))
        self.assert_no_plan(([], [("ann", "c", "f")]))
        for value in ANY_VALUES:
            for vote in [value, (value, "root", "a"), ("ann", value, "c"), ("ann", "root", value)]:
                if vote != ("ann", "a", "c") and vote != ("ann", "root", "a"):
                    self.assert_no_plan(([], [vote]))

    def test_values_that_are_none(self):
        blocks, votes = FORK_PLAN
        for value in [[blocks, votes], (blocks,), (votes,), (blocks, votes, []), (blocks, votes, None), (votes, blocks),
                      ([list(row) for row in blocks], votes), (blocks, [list(vote) for vote in votes]), blocks, votes,
                      (dict(blocks), votes), (blocks, dict.fromkeys(votes)), (None, votes), (blocks, None), ("", ""),
                      ({}, {}), ("", []), ([], ""), ([("e",)], []), ([("e", "root", "")], []), ([()], []),
                      (["ea"], []), ([], ["aac"]), {"blocks": blocks, "votes": votes}, ((blocks, votes),)]:
            self.assert_no_plan(value)
        for value in ANY_VALUES:
            self.assert_no_plan(value)
            for told in [(value, []), ([], value), (value, value), ([value], []), ([], [value])]:
                if not isinstance(value, (list, tuple)) or len(value) or told in [([value], []), ([], [value])]:
                    self.assert_no_plan(told)

    def test_near_plans(self):
        random, found = Random("plans"), {True: 0, False: 0}
        for case in force.final_cases(25, "plans"):
            ballot = case.ballot()
            blocks = [("new", random.choice(list(case.parents))), ("next", "new")]
            parents = {**case.parents, **dict(blocks)}
            votes = [(random.choice(list(case.weights)), *link) for link in random.sample(model.all_links(parents), 3)]
            for value in force.near_plans(random, case, (blocks, votes)):
                expected = force.after(case, value) is not None
                self.assert_plan(value, ballot) if expected else self.assert_no_plan(value, ballot)
                found[expected] += 1
        self.assertGreater(min(found.values()), 200)

    def test_a_value_stays_as_it_was(self):
        value = ([("e", "root")], [("ann", "root", "e")])
        after(line(), value)
        is_plan(line(), value)
        self.assertEqual(value, ([("e", "root")], [("ann", "root", "e")]))


class Attacks(Checks):
    """[25], [26]: for each final block and each list of voters an attack or a wall, never both."""

    def assert_one_of_both(self, case, ballot, block, voters, expected):
        told, shown = attack_by(ballot, block, voters), wall(ballot, block, voters)
        self.assertIs(told is not None, expected)
        self.assertIs(shown is None, expected)
        if expected:
            self.assertTrue(force.is_attack(case, block, voters, told))
            self.assertIs(is_attack(ballot, block, voters, told), True)
            self.assertIs(told.__class__, tuple)
            self.assertEqual([part.__class__ for part in told], [list, list])
        else:
            self.assertTrue(force.walls(case, block, voters).holds(shown))
            self.assertIs(wall_holds(ballot, block, voters, shown), True)
            self.assertIs(shown.__class__, tuple)
            for part in shown:
                self.assertEqual(part, sorted(part))
                self.assertIs(part.__class__, list)
                self.assertEqual(len(part), len(set(part)))

    def test_random_ballots(self):
        random, found = Random("both"), {True: 0, False: 0}
        for case in [*force.final_cases(60, "attacks"), *model.clashing_cases(10, "attacks")]:
            ballot = case.ballot()
            for block in case.final():
                for voters in some_lots(random, case):
                    expected = force.attack(case, block, voters)
                    if expected is not None:
                        self.assertTrue(force.is_attack(case, block, voters, expected))
                    self.assert_one_of_both(case, ballot, block, voters, expected is not None)
                    self.assert_one_of_both(case, ballot, block, tuple(voters), expected is not None)
                    found[expected is not None] += 1
        self.assertGreater(min(found.values()), 200)

    def test_all_votes_on_a_small_tree(self):
        found = {True: 0, False: 0}
        grown = {**LINE, "m": "root", "n": "m", "o": "n", "p": "o"}
        for case in force.tiny_cases(60, "all votes", LINE):
            if "a" in case.final():
                for voters in force.lots(list(case.weights)):
                    expected = force.by_all_votes(case, grown, {*voters, *case.guilty()}, case.weights,
                                                  lambda block: model.against(grown, "a", block))
                    self.assertIs(attack_by(case.ballot(), "a", voters) is not None, expected)
                    self.assertIs(wall(case.ballot(), "a", voters) is None, expected)
                    found[expected] += 1
        self.assertGreater(min(found.values()), 50)

    def test_all_votes_on_a_tree_with_two_branches(self):
        found = {True: 0, False: 0}
        fork = {"root": "", "a": "root", "b": "a", "d": "root"}
        grown = {**fork, "m": "root", "n": "m", "e": "d", "f": "e", "g": "f"}
        for case in force.tiny_cases(80, "two branches", fork):
            if "a" in case.final() and "d" not in case.final():
                for voters in [[], ["ann"], case.guilty()]:
                    expected = force.by_all_votes(case, grown, {*voters, *case.guilty()}, case.weights,
                                                  lambda block: model.against(grown, "a", block))
                    self.assertIs(attack_by(case.ballot(), "a", voters) is not None, expected)
                    self.assertIs(wall(case.ballot(), "a", voters) is None, expected)
                    found[expected] += 1
        self.assertGreater(min(found.values()), 15)

    def test_values_near_attacks(self):
        random, found = Random("near"), {True: 0, False: 0}
        for case in force.final_cases(30, "near"):
            ballot = case.ballot()
            block = random.choice([block for block in case.final() if block != case.root])
            lots = [lot for lot in force.lots(list(case.weights)) if force.attack(case, block, lot)]
            for voters in random.sample(lots, min(2, len(lots))):
                for value in force.near_plans(random, case, attack_by(ballot, block, voters)):
                    for lot in [voters, voters[1:], case.guilty()]:
                        expected = force.is_attack(case, block, lot, value)
                        self.assertIs(is_attack(ballot, block, lot, value), expected)
                        found[expected] += 1
        self.assertGreater(min(found.values()), 200)

    def test_values_near_walls(self):
        random, found = Random("near walls"), {True: 0, False: 0}
        for case in force.final_cases(40, "near walls"):
            ballot = case.ballot()
            for block in case.final():
                lots = [lot for lot in some_lots(random, case) if not force.attack(case, block, lot)]
                for voters in lots[:2]:
                    closed = force.walls(case, block, voters)
                    for value in force.near_places(closed, wall(ballot, block, voters)):
                        for lot in [voters, list(case.weights)]:
                            expected = force.walls(case, block, lot).holds(value)
                            self.assertIs(wall_holds(ballot, block, lot, value), expected, (block, lot, value))
                            found[expected] += 1
        self.assertGreater(min(found.values()), 500)

    def test_all_pairs_of_lists_on_a_small_ballot(self):
        found = {True: 0, False: 0}
        for voters in [[], ["cy"], ["ann"]]:
            closed = force.walls(force.case_of(line()), "a", voters)
            for blocks in force.lots(["root", "a", "c"]):
                for heights in force.lots([0, 1, 2, 3, 4, 5]):
                    expected = closed.holds((blocks, heights))
                    self.assertIs(wall_holds(line(), "a", voters, (blocks, heights)), expected, (blocks, heights))
                    found[expected] += 1
        self.assertGreater(min(found.values()), 1)

    def test_the_new_places_end_two_above_the_greatest_height(self):
        ballot = line([(voter, *link) for voter in THREE for link in [("root", "a"), ("a", "c")]])
        self.assertEqual(wall(ballot, "a", []), (["root"], []))
        # From 3 to 4 everybody may vote; from 4 no step leads to a place, and 5 is none.
        for heights, expected in [([], True), ([4], True), ([3], False), ([3, 4], False), ([5], False), ([4, 5], False),
                                  ([0], False), ([1], False), ([2], False)]:
            self.assertIs(wall_holds(ballot, "a", [], (["root"], heights)), expected, heights)
            self.assertIs(force.walls(force.case_of(ballot), "a", []).holds((["root"], heights)), expected, heights)

    def test_an_attack_that_needs_all_new_places(self):
        # What cy has voted for leaves free from the root only what ends above c, and from there to one higher.
        ballot = line([*VOTES, ("cy", "root", "a"), ("cy", "root", "c")])
        self.assertEqual((final(ballot), guilty(ballot), worth(ballot, "a").text()), (["a", "root"], [], "1"))
        for voters in [["ann"], ["bob"]]:
            plan = attack_by(ballot, "a", voters)
            self.assertIs(is_attack(ballot, "a", voters, plan), True)
            self.assertEqual(max(after(ballot, plan).tree().height(block) for block, _ in plan[0]), 4)
        self.assertIs(wall_holds(ballot, "a", ["ann"], (["root"], [])), False)
        self.assertIs(wall_holds(ballot, "a", ["cy"], (["root"], [])), True)
        self.assertIs(wall_holds(ballot, "a", ["ann"], (["root"], [3, 4])), False)

    def test_weights_just_enough_and_just_too_little(self):
        votes = [(voter, *link) for voter in THREE for link in [("root", "a"), ("a", "c")]]
        for weight, expected in [(4, "4"), (Ratio(399, 100), "499/100"), (Ratio(401, 100), "401/100")]:
            ballot = line(votes, {"ann": 1, "bob": 1, "cy": weight})
            self.assertEqual(worth(ballot, "a").text(), expected)
            self.assertIs(attack_by(ballot, "a", ["cy"]) is None, expected == "499/100")
            self.assertIsNone(attack_by(ballot, "a", ["ann", "bob"]))
            self.assertIsNotNone(attack_by(ballot, "a", ["ann", "cy"]))

    def test_an_attack_that_is_there_already(self):
        for case in model.clashing_cases(15, "there already"):
            ballot = case.ballot()
            for one, other in case.clashes():
                for block in [one, other]:
                    self.assertIs(is_attack(ballot, block, [], ([], [])), True)
                    self.assertIsNotNone(attack_by(ballot, block, []))
                    self.assertIsNone(wall(ballot, block, []))
                    self.assertEqual(worth(ballot, block), ballot.weight_of(guilty(ballot)))

    def test_the_guilty_may_always_break_rules(self):
        ballot = line([*VOTES, ("ann", "root", "c")])
        self.assertEqual(guilty(ballot), ["ann"])
        for voters in [[], ["ann"], ["cy", "cy"]]:
            self.assertIs(is_attack(ballot, "a", voters, attack_by(ballot, "a", voters)), True)
            self.assertIs(is_attack(ballot, "a", voters, FORK_PLAN), True)
            self.assertIsNone(wall(ballot, "a", voters))
            self.assertIs(wall_holds(ballot, "a", voters, (["root"], [])), False)

    def test_the_root(self):
        for case in [*force.final_cases(10, "root"), *model.cases(20, "root")]:
            ballot, root = case.ballot(), case.root
            for voters in [[], list(case.weights)]:
                self.assertIsNone(attack_by(ballot, root, voters))
                self.assertEqual(wall(ballot, root, voters), ([root], []))
                for value, expected in [(([root], []), True), (((root,), ()), True), (([root, root], []), True),
                                        (([root], [1]), False), (([], []), False), (([root], [0]), False),
                                        ((list(case.parents), []), len(case.parents) == 1)]:
                    self.assertIs(wall_holds(ballot, root, voters, value), expected)
                self.assertIs(is_attack(ballot, root, voters, ([], [])), False)
            self.assertIsNone(worth(ballot, root))
            self.assertIsNone(least_attack(ballot, root))

    def test_values_of_every_kind(self):
        for value in ANY_VALUES + [FORK_PLAN[0], FORK_PLAN[1], list(FORK_PLAN)]:
            for told in [value, (value, []), ([], value), ([value], []), ([], [value]), (value, value),
                         (["root", value], []), (["root"], [value]), (["root"], value), (value, [1])]:
                self.assertIs(is_attack(line(), "a", ["ann"], told), False)
                closed = force.walls(force.case_of(line()), "a", [])
                self.assertIs(wall_holds(line(), "a", [], told), closed.holds(told), told)

    def test_lists_are_new_on_each_call(self):
        for call in [lambda: attack_by(line(), "a", ["ann"]), lambda: wall(line(), "a", []),
                     lambda: least_attack(line(), "a")]:
            told, again = call(), call()
            self.assertEqual(told, again)
            told[0].append("more")
            self.assertEqual(call(), again)

    def test_new_names_are_not_in_use(self):
        names = "abcdefghijklmnopqrstuvwxyz"
        for taken in ["abcdefg", names[:20], names[3:25], names]:
            parents = {"root": "", **{name: "root" for name in taken[1:]}, taken[0]: "root", "next": taken[0]}
            ballot = Ballot(Tree(parents), THREE, 1, [(voter, *link) for voter in THREE
                                                      for link in [("root", taken[0]), (taken[0], "next")]])
            plan = attack_by(ballot, taken[0], list(THREE))
            self.assertIs(is_attack(ballot, taken[0], list(THREE), plan), True)


class Errors(Checks):
    """[25], [26], [27]: NoBlock, then NotFinal, then NoVoter."""

    CALLS = [lambda ballot, block, voters: attack_by(ballot, block, voters),
             lambda ballot, block, voters: wall(ballot, block, voters),
             lambda ballot, block, voters: is_attack(ballot, block, voters, None),
             lambda ballot, block, voters: wall_holds(ballot, block, voters, None)]

    def test_no_block(self):
        for value in NO_BLOCKS:
            for call in self.CALLS:
                self.assert_given(NoBlock, value, call, line(), value, [])
                self.assert_given(NoBlock, value, call, line([]), value, [None])
            for function in [worth, least_attack]:
                self.assert_given(NoBlock, value, function, line(), value)

    def test_not_final(self):
        for ballot, blocks in [(line(), ["c"]), (line([]), ["a", "c"])]:
            for block in blocks:
                for call in self.CALLS:
                    for voters in [[], ["ann"], [None], ["dot"]]:
                        with self.assertRaises(NotFinal):
                            call(ballot, block, voters)
                for function in [worth, least_attack]:
                    with self.assertRaises(NotFinal):
                        function(ballot, block)

    def test_no_voter(self):
        for value in NO_VOTERS:
            for call in self.CALLS:
                for block in ["a", "root"]:
                    self.assert_given(NoVoter, value, call, line(), block, [value])
                    self.assert_given(NoVoter, value, call, line(), block, ("ann", value, "dot"))
                    self.assert_given(NoVoter, "dot", call, line(), block, ["dot", value])


class Worth(Checks):
    """[27]: what a final block is worth."""

    def test_against_all_lots_of_voters(self):
        found = 0
        for case in [*force.final_cases(70, "worth"), *model.clashing_cases(8, "worth")]:
            ballot = case.ballot()
            for block in case.final():
                expected = force.worth(case, block)
                told = worth(ballot, block)
                if block == case.root:
                    self.assertIsNone(told)
                    self.assertIsNone(expected)
                    continue
                self.assertIs(told.__class__, Ratio)
                self.assertEqual(model.fraction(told), expected)
                found += expected > (2 * case.share - 1) * case.whole()
        self.assertGreater(found, 20)

    def test_the_least_attack(self):
        for case in [*force.final_cases(70, "least"), *model.clashing_cases(8, "least")]:
            ballot = case.ballot()
            for block in case.final():
                if block == case.root:
                    self.assertIsNone(least_attack(ballot, block))
                    continue
                voters, plan = least_attack(ballot, block)
                self.assertTrue(force.is_attack(case, block, voters, plan))
                self.assertIs(is_attack(ballot, block, voters, plan), True)
                self.assertEqual(force.after(case, plan).guilty(), voters)
                self.assertEqual(guilty(after(ballot, plan)), voters)
                self.assertEqual(ballot.weight_of(voters), worth(ballot, block))

    def test_worths(self):
        for weights, share, voters, expected in [
                (THREE, Ratio(2, 3), ["ann", "bob"], 1), (THREE, Ratio(2, 3), THREE, 2), (THREE, 1, THREE, 3),
                ({"ann": 2, "bob": 1, "cy": 1}, Ratio(3, 4), ["ann", "bob"], 2),
                ({"ann": 2, "bob": 1, "cy": 1}, Ratio(3, 4), ["ann", "bob", "cy"], 3),
                ({"ann": 5, "bob": 1, "cy": 1}, Ratio(2, 3), ["ann"], 5),
                ({"ann": Ratio(1, 3), "bob": Ratio(1, 3), "cy": Ratio(1, 3)}, Ratio(2, 3), THREE, Ratio(2, 3)),
                ({"ann": 10 ** 59, "bob": 1}, Ratio(10 ** 59, 10 ** 59 + 1), ["ann"], 10 ** 59)]:
            votes = [(voter, *link) for voter in voters for link in [("root", "a"), ("a", "c")]]
            self.assertEqual(worth(line(votes, weights, share), "a"), expected)

    def test_a_chain_of_final_blocks(self):
        names = ["root", "a", "b", "c", "d"]
        parents = {name: names[at - 1] if at else "" for at, name in enumerate(names)}
        votes = [(voter, *link) for link in zip(names, names[1:]) for voter in THREE]
        ballot = Ballot(Tree(parents), THREE, Ratio(2, 3), votes)
        self.assertEqual([worth(ballot, name).text() for name in "abc"], ["2", "2", "2"])
        # Whoever took no part in the links above b is free to vote from a or b for something else there.
        fewer = [vote for vote in votes if vote[0] != "cy" or vote[1] in ["root", "a"]]
        ballot = Ballot(Tree(parents), THREE, Ratio(2, 3), fewer)
        self.assertEqual([worth(ballot, name).text() for name in "abc"], ["2", "1", "1"])
        # What is against a block is against all to which it leads, too.
        fewer = [vote for vote in votes if vote[0] != "cy" or vote[1] == "c"]
        ballot = Ballot(Tree(parents), THREE, Ratio(2, 3), fewer)
        self.assertEqual([worth(ballot, name).text() for name in "abc"], ["1", "1", "1"])

    def test_it_is_at_least_the_bound(self):
        for case in force.final_cases(60, "bound"):
            for block in case.final():
                if block != case.root:
                    told = model.fraction(worth(case.ballot(), block))
                    self.assertGreaterEqual(told, case.least_blame())
                    self.assertGreater(told, 0)

    def test_it_is_never_less_with_more_votes_and_blocks(self):
        grew = 0
        for case in force.final_cases(40, "more"):
            ballot = case.ballot()
            blocks = [block for block in case.final() if block != case.root]
            kept = {block: worth(ballot, block) for block in blocks}
            for at, vote in enumerate(model.further_votes(case, 4)):
                ballot = ballot.with_block("n" + "abcd"[at], vote[2]).with_vote(*vote)
                for block in blocks:
                    told = worth(ballot, block)
                    self.assertTrue(kept[block] <= told)
                    grew += kept[block] < told
                    kept[block] = told
        self.assertGreater(grew, 10)

    def test_the_order_of_the_voters_makes_no_difference(self):
        for order in permutations(THREE):
            ballot = line(VOTES, {voter: THREE[voter] for voter in order})
            self.assertEqual(worth(ballot, "a"), 1)
            self.assertIn(least_attack(ballot, "a")[0], [["ann"], ["bob"]])

    def test_the_sizes_of_the_limits(self):
        names = [one + other for one in "abcd" for other in "abcdef"]
        voters = ["v" + letter for letter in "abcdefg"]
        line_of = {name: names[at - 1] if at else "" for at, name in enumerate(names)}
        bush = {name: names[(at - 1) // 2] if at else "" for at, name in enumerate(names)}
        random = Random("sizes")
        for parents in [line_of, bush]:
            tall = model.branch(parents, names[-1])
            for share in [Ratio(2, 3), Ratio(10 ** 59 + 1, 2 * 10 ** 59), 1]:
                weights = {voter: Ratio(random.randrange(10 ** 58, 10 ** 60), 10 ** 59 + 1) for voter in voters}
                votes = [(voter, *link) for link in zip(tall, tall[1:]) for voter in voters][:120]
                ballot = Ballot(Tree(parents), weights, share, votes)
                for block in final(ballot)[1:3]:
                    told, plan = least_attack(ballot, block)
                    self.assertEqual(ballot.weight_of(told), worth(ballot, block))
                    self.assertIs(is_attack(ballot, block, told, plan), True)
                    shown = wall(ballot, block, told[1:])
                    self.assertIs(wall_holds(ballot, block, told[1:], shown), True)


if __name__ == "__main__":
    import unittest
    unittest.main()
