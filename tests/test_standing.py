import inspect
from fractions import Fraction
from itertools import permutations, product

from finalblocks import standing
from finalblocks.ballots import Ballot
from finalblocks.errors import NoBlock
from finalblocks.ratios import Ratio
from finalblocks.standing import (
    final, final_paper, highest, is_final_paper, is_paper, is_supported, justified, links, paper, support)
from finalblocks.trees import Tree
from tests import model
from tests.checks import Checks
from tests.values import ANY_VALUES, same

MANY = {"root": "", "a": "root", "b": "a", "c": "a", "d": "c"}
TREE = Tree(MANY)
THREE = {"ann": 1, "bob": 1, "cy": 1}
BIG = 10 ** 59
BARELY = Ratio(BIG + 1, 2 * BIG)
NO_BLOCKS = [value for value in ANY_VALUES if not same(value, "a")] + ["gone", "roo", "A"]
FUNCTIONS = ["support", "is_supported", "links", "justified", "final", "highest", "paper", "is_paper", "final_paper",
             "is_final_paper"]


def votes_for(voters, *pairs):
    """Votes of each of some voters for each of some links."""
    return [(voter, *link) for voter in voters for link in pairs]


def ballot_of(votes, share=Ratio(2, 3), weights=THREE, parents=MANY):
    return Ballot(Tree(parents), weights, share, votes)


def is_paper_for(case, block, value):
    """Whether a value is a paper for a block, as [20] tells it."""
    if not isinstance(value, (list, tuple)):
        return False
    if block == case.root or len(value) == 0:
        return block == case.root and len(value) == 0
    supported = case.supported()
    if not all(isinstance(link, tuple) and any(link == other for other in supported) for link in value):
        return False
    joined = all(one[1] == other[0] for one, other in zip(value, value[1:]))
    return value[0][0] == case.root and joined and value[-1][1] == block


def is_final_paper_for(case, block, value):
    if not isinstance(value, tuple) or len(value) != 2 or not is_paper_for(case, block, value[0]):
        return False
    if block == case.root:
        return isinstance(value[1], str) and value[1] == ""
    shown = [child for child in case.parents if case.parents[child] == block and (block, child) in case.supported()]
    return any(same(value[1], child) for child in shown)


def near_papers(case, shown):
    """Values of many kinds near a list of links."""
    blocks = list(case.parents)
    yield from [shown, tuple(shown), list(reversed(shown)), shown + shown, shown[1:], shown[:-1], [shown], (shown,)]
    yield from [[list(link) for link in shown], [(*link, "") for link in shown], [link[:1] for link in shown]]
    yield from [[link[::-1] for link in shown], dict(shown), {link: True for link in shown}, [*shown, None], str(shown)]
    yield from [[*shown, ""], [*shown, []], [*shown, ()], [case.root, *shown], [("", case.root), *shown]]
    for at, link in product(range(len(shown) + 1), model.all_links(case.parents)):
        yield shown[:at] + [link] + shown[at:]
        yield shown[:at] + [link] + shown[at + 1:]
        yield (*shown[:at], link)
    for at, value in product(range(len(shown)), ANY_VALUES):
        yield shown[:at] + [value] + shown[at + 1:]
        yield shown[:at] + [(shown[at][0], value)] + shown[at + 1:]
        yield shown[:at] + [(value, shown[at][1])] + shown[at + 1:]
    for one, other in product(blocks, blocks):
        yield [(one, other)]


class Examples(Checks):
    """The examples of the interface."""

    def test_them(self):
        tree = Tree({"root": "", "a": "root", "b": "a", "c": "a", "d": "c"})
        votes = [(voter, source, target) for voter in ["ann", "bob"]
                 for source, target in [("root", "a"), ("a", "c")]]
        ballot = Ballot(tree, {"ann": 1, "bob": 1, "cy": 1}, Ratio(2, 3), [*votes, ("cy", "c", "d")])
        self.assertEqual(
            (links(ballot), justified(ballot), final(ballot), highest(ballot), support(ballot, "c", "d").text()),
            ([("a", "c"), ("root", "a")], ["a", "c", "root"], ["a", "root"], "c", "1"))
        self.assertEqual(
            (paper(ballot, "c"), paper(ballot, "d"), final_paper(ballot, "a"), is_paper(ballot, "c", [("root", "c")])),
            ([("root", "a"), ("a", "c")], None, ([("root", "a")], "c"), False))
        self.assert_given(NoBlock, "e", support, ballot, "c", "e")

    def test_where_things_stand(self):
        for name in FUNCTIONS:
            self.assertEqual(getattr(standing, name).__module__, "finalblocks.standing", name)

    def test_arguments_by_name(self):
        ballot = ballot_of(votes_for(["ann", "bob"], ("root", "a"), ("a", "c")))
        self.assertEqual(support(ballot=ballot, source="a", target="c"), 2)
        self.assertTrue(is_supported(ballot=ballot, source="a", target="c"))
        self.assertEqual(paper(ballot=ballot, block="a"), [("root", "a")])
        self.assertTrue(is_paper(ballot=ballot, block="a", links=[("root", "a")]))
        self.assertEqual(final_paper(ballot=ballot, block="a"), ([("root", "a")], "c"))
        self.assertTrue(is_final_paper(ballot=ballot, block="a", value=([("root", "a")], "c")))
        for function in [links, justified, final, highest]:
            self.assertEqual(list(inspect.signature(function).parameters), ["ballot"])
            self.assertEqual(function(ballot=ballot), function(ballot))


class Support(Checks):
    """[3], [19]: how much weight stands behind a link, and when it is enough."""

    def assert_supported(self, expected, share, weights, voters):
        ballot = ballot_of(votes_for(voters, ("root", "a")), share, weights)
        self.assertIs(is_supported(ballot, "root", "a"), expected)
        self.assertEqual(links(ballot), [("root", "a")] if expected else [])
        self.assertEqual(justified(ballot), ["a", "root"] if expected else ["root"])

    def test_just_enough_and_just_too_little(self):
        for expected, share, weights, voters in [
                (True, Ratio(2, 3), THREE, ["ann", "bob"]), (False, Ratio(2, 3), THREE, ["ann"]),
                (False, Ratio(2 * BIG + 1, 3 * BIG), THREE, ["ann", "bob"]),
                (True, Ratio(2 * BIG - 1, 3 * BIG), THREE, ["ann", "bob"]),
                (True, 1, THREE, ["cy", "ann", "bob"]), (False, 1, THREE, ["ann", "bob"]),
                (False, Ratio(1), {"ann": BIG, "bob": Ratio(1, BIG)}, ["ann"]),
                (True, Ratio(BIG - 1, BIG), {"ann": BIG - 1, "bob": 1}, ["ann"]),
                (False, Ratio(BIG - 1, BIG), {"ann": BIG - 2, "bob": 2}, ["ann"]),
                (False, BARELY, {"ann": 1, "bob": 1}, ["ann"]), (True, BARELY, {"ann": 1, "bob": 1}, ["bob", "ann"]),
                (True, BARELY, {"ann": BIG + 1, "bob": BIG - 1}, ["ann"]),
                (False, BARELY, {"ann": BIG + 1, "bob": BIG - 1}, ["bob"]),
                (True, BARELY, {"ann": Ratio(BIG + 1, 7), "bob": Ratio(BIG - 1, 7)}, ["ann"]),
                (True, Ratio(2, 3), {"ann": Ratio(1, 3), "bob": Ratio(1, 6)}, ["ann"]),
                (False, Ratio(2, 3), {"ann": Ratio(1, 3), "bob": Ratio(1, 5)}, ["ann"]),
                (True, Ratio(3, 5), {"ann": Ratio(1, 2), "bob": Ratio(1, 3)}, ["ann"]),
                (False, Ratio(3, 5), {"ann": Ratio(1, 2), "bob": Ratio(1, 3)}, ["bob"])]:
            self.assert_supported(expected, share, weights, voters)

    def test_the_weight_is_a_ratio(self):
        ballot = ballot_of(votes_for(["ann", "bob"], ("root", "a")), 1, {"ann": 2, "bob": Ratio(1, 3), "cy": 4})
        for link, expected in [(("root", "a"), Ratio(7, 3)), (("a", "b"), 0), (("root", "d"), 0)]:
            told = support(ballot, *link)
            self.assertIs(told.__class__, Ratio)
            self.assertEqual(told, expected)

    def test_a_vote_given_twice_counts_once(self):
        ballot = ballot_of([("ann", "root", "a")] * 3)
        self.assertEqual(support(ballot, "root", "a"), 1)
        self.assertEqual(links(ballot), [])

    def test_two_blocks_that_are_no_link(self):
        ballot = ballot_of(votes_for(THREE, *model.all_links(MANY)))
        for one, other in product(MANY, MANY):
            expected = (one, other) in model.all_links(MANY)
            self.assertEqual(support(ballot, one, other), 3 if expected else 0)
            self.assertIs(is_supported(ballot, one, other), expected)

    def test_random_ballots(self):
        for case in model.cases(150, "support"):
            ballot = case.ballot()
            for link in product(case.parents, case.parents):
                self.assertEqual(model.fraction(support(ballot, *link)), case.support(link))
                self.assertIs(is_supported(ballot, *link), link in case.supported())
            self.assertEqual(links(ballot), sorted(case.supported()))

    def test_no_block(self):
        ballot = ballot_of(votes_for(THREE, ("root", "a")))
        for function in [support, is_supported]:
            for value in NO_BLOCKS:
                for block in MANY:
                    self.assert_given(NoBlock, value, function, ballot, value, block)
                    self.assert_given(NoBlock, value, function, ballot, block, value)
                self.assert_given(NoBlock, value, function, ballot, value, value)
                self.assert_given(NoBlock, value, function, ballot, value, "nope")
                self.assert_given(NoBlock, "nope", function, ballot, "nope", value)


class Standing(Checks):
    """[3], [19]: supported links, justified and final blocks, and the highest one."""

    def test_without_votes(self):
        for parents in [MANY, {"root": ""}]:
            ballot = ballot_of([], parents=parents)
            self.assertEqual((links(ballot), justified(ballot), final(ballot), highest(ballot)),
                             ([], ["root"], ["root"], "root"))

    def test_links_that_skip_blocks(self):
        ballot = ballot_of(votes_for(["ann", "bob"], ("root", "c"), ("c", "d")))
        self.assertEqual((justified(ballot), final(ballot), highest(ballot)), (["c", "d", "root"], ["c", "root"], "d"))
        # A link past the child makes its source not final.
        ballot = ballot_of(votes_for(["ann", "bob"], ("root", "a"), ("a", "d")))
        self.assertEqual((justified(ballot), final(ballot), highest(ballot)), (["a", "d", "root"], ["root"], "d"))

    def test_a_source_that_is_not_justified(self):
        ballot = ballot_of(votes_for(["ann", "bob"], ("a", "c"), ("c", "d")))
        self.assertEqual((links(ballot), justified(ballot), final(ballot), highest(ballot)),
                         ([("a", "c"), ("c", "d")], ["root"], ["root"], "root"))

    def test_a_source_justified_by_way_of_another_link(self):
        ballot = ballot_of(votes_for(["ann", "bob"], ("a", "c"), ("c", "d"), ("root", "a")))
        self.assertEqual((justified(ballot), final(ballot)), (["a", "c", "d", "root"], ["a", "c", "root"]))

    def test_supports_of_different_voters(self):
        ballot = ballot_of([*votes_for(["ann", "bob"], ("root", "a")), *votes_for(["cy", "bob"], ("a", "b")),
                            *votes_for(["cy", "ann"], ("root", "d"))])
        self.assertEqual((justified(ballot), final(ballot), highest(ballot)),
                         (["a", "b", "d", "root"], ["a", "root"], "d"))

    def test_the_highest_of_several(self):
        parents = {"z": "", "b": "z", "ab": "z", "c": "b", "aa": "ab", "d": "b"}
        for blocks, expected in [(["b", "ab"], "ab"), (["c", "d"], "c"), (["c", "aa", "ab"], "aa"), (["ab", "d"], "d"),
                                 (["b"], "b"), (["d", "c", "aa"], "aa"), (["b", "ab", "d"], "d")]:
            ballot = ballot_of(votes_for(THREE, *[("z", block) for block in blocks]), parents=parents)
            self.assertEqual(highest(ballot), expected)
            self.assertEqual(justified(ballot), sorted([*blocks, "z"]))

    def test_the_root_is_final_in_any_case(self):
        for votes in [[], votes_for(THREE, ("a", "b")), votes_for(THREE, ("root", "d")),
                      votes_for(THREE, ("root", "a"))]:
            self.assertEqual(final(ballot_of(votes)), ["root"])

    def test_random_ballots(self):
        found = {"justified": 0, "final": 0}
        for case in [*model.cases(300, "standing"), *model.clashing_cases(60, "standing")]:
            ballot = case.ballot()
            self.assertEqual(justified(ballot), case.justified())
            self.assertEqual(final(ballot), case.final())
            best = max(model.height(case.parents, block) for block in case.justified())
            self.assertEqual(highest(ballot), min(block for block in case.justified()
                                                  if model.height(case.parents, block) == best))
            found["justified"] += len(case.justified()) > 1
            found["final"] += len(case.final()) > 1
        self.assertGreater(min(found.values()), 100)

    def test_a_tree_of_24_blocks(self):
        names = [f"n{letter}" for letter in "abcdefghijklmnopqrstuvwx"]
        parents = {name: names[at - 1] if at else "" for at, name in enumerate(names)}
        steps = list(zip(names, names[1:]))
        ballot = ballot_of(votes_for(["ann", "bob"], *reversed(steps)), parents=parents)
        self.assertEqual((justified(ballot), final(ballot), highest(ballot)), (names, names[:-1], names[-1]))
        self.assertEqual(paper(ballot, names[-1]), steps)
        self.assertEqual(final_paper(ballot, names[-2]), (steps[:-1], names[-1]))

    def test_lists_are_new_on_each_call(self):
        ballot = ballot_of(votes_for(["ann", "bob"], ("root", "a"), ("a", "c")))
        for call in [lambda: links(ballot), lambda: justified(ballot), lambda: final(ballot),
                     lambda: paper(ballot, "c"), lambda: paper(ballot, "root"), lambda: final_paper(ballot, "a")[0],
                     lambda: final_paper(ballot, "root")[0]]:
            told = call()
            kept = list(told)
            told.append("more")
            told[0] = "other"
            self.assertEqual(call(), kept)
            self.assertIsNot(call(), call())


class Papers(Checks):
    """[20]: papers for justified blocks."""

    def test_papers_for_just_the_justified_blocks(self):
        shown = 0
        for case in [*model.cases(200, "papers"), *model.clashing_cases(40, "papers")]:
            ballot = case.ballot()
            for block in case.parents:
                told = paper(ballot, block)
                if block in case.justified():
                    self.assertIs(told.__class__, list)
                    self.assertTrue(is_paper_for(case, block, told))
                    self.assertIs(is_paper(ballot, block, told), True)
                    self.assertIs(is_paper(ballot, block, tuple(told)), True)
                    shown += len(told) > 1
                else:
                    self.assertIsNone(told)
        self.assertGreater(shown, 50)

    def test_the_root_has_the_empty_paper_alone(self):
        ballot = ballot_of(votes_for(THREE, *model.all_links(MANY)))
        self.assertEqual(paper(ballot, "root"), [])
        for value in [[], ()]:
            self.assertIs(is_paper(ballot, "root", value), True)
        for value in [[("root", "root")], [("root", "a")], [("root", "a"), ("a", "root")], "", None, {}, 0, False]:
            self.assertIs(is_paper(ballot, "root", value), False)

    def test_more_than_one_paper_for_a_block(self):
        ballot = ballot_of(votes_for(THREE, *model.all_links(MANY)))
        for value in [[("root", "d")], [("root", "a"), ("a", "d")], [("root", "c"), ("c", "d")],
                      (("root", "a"), ("a", "c"), ("c", "d"))]:
            self.assertIs(is_paper(ballot, "d", value), True)
            self.assertIs(is_paper(ballot, "c", value), False)

    def test_links_are_tuples(self):
        ballot = ballot_of(votes_for(THREE, ("root", "a"), ("a", "b")))
        self.assertIs(is_paper(ballot, "b", [("root", "a"), ("a", "b")]), True)
        for value in [[["root", "a"], ["a", "b"]], [("root", "a"), ["a", "b"]], (["root", "a"], ("a", "b"))]:
            self.assertIs(is_paper(ballot, "b", value), False)

    def test_a_link_that_is_not_supported(self):
        ballot = ballot_of([*votes_for(["ann", "bob"], ("root", "a"), ("c", "d")), ("cy", "a", "c")])
        self.assertIs(is_paper(ballot, "a", [("root", "a")]), True)
        self.assertIs(is_paper(ballot, "c", [("root", "a"), ("a", "c")]), False)
        self.assertIs(is_paper(ballot, "d", [("root", "a"), ("a", "c"), ("c", "d")]), False)
        self.assertIs(is_paper(ballot, "d", [("c", "d")]), False)
        self.assertIs(is_paper(ballot, "d", [("root", "a"), ("c", "d")]), False)

    def test_values_near_a_paper(self):
        found = {True: 0, False: 0}
        for case in [*model.cases(12, "near"), *model.clashing_cases(6, "near")]:
            ballot = case.ballot()
            for block in case.justified():
                for value in near_papers(case, paper(ballot, block)):
                    for other in (block, case.root, model.branch(case.parents, block)[-2:][0]):
                        expected = is_paper_for(case, other, value)
                        self.assertIs(is_paper(ballot, other, value), expected, (other, value))
                        found[expected] += 1
        self.assertGreater(min(found.values()), 100)

    def test_values_of_every_kind(self):
        case = model.Case(MANY, {"ann": Fraction(1)}, 1, votes_for(["ann"], *model.all_links(MANY)))
        ballot = case.ballot()
        for block, value in product(MANY, ANY_VALUES):
            for told in [value, [value], (value,), [("root", "a"), value], {"a": value}]:
                self.assertIs(is_paper(ballot, block, told), is_paper_for(case, block, told), (block, told))
            for told in [value, (value, value), [value, ""], (value, ""), ([], value), ([("root", "a")], value),
                         ([], "", value), ([],), (value,)]:
                self.assertIs(is_final_paper(ballot, block, told), is_final_paper_for(case, block, told), told)

    def test_a_value_stays_as_it_was(self):
        ballot = ballot_of(votes_for(THREE, ("root", "a"), ("a", "b")))
        value = [("root", "a"), ("a", "b")]
        is_paper(ballot, "b", value)
        is_final_paper(ballot, "b", (value, "b"))
        self.assertEqual(value, [("root", "a"), ("a", "b")])


class FinalPapers(Checks):
    """[20]: papers for final blocks."""

    def test_papers_for_just_the_final_blocks(self):
        shown = 0
        for case in [*model.cases(200, "final papers"), *model.clashing_cases(40, "final papers")]:
            ballot = case.ballot()
            for block in case.parents:
                told = final_paper(ballot, block)
                if block in case.final():
                    self.assertEqual((told.__class__, told[0].__class__), (tuple, list))
                    self.assertTrue(is_final_paper_for(case, block, told))
                    self.assertIs(is_final_paper(ballot, block, told), True)
                    self.assertIs(is_final_paper(ballot, block, (tuple(told[0]), told[1])), True)
                    shown += len(told[0]) > 0
                else:
                    self.assertIsNone(told)
        self.assertGreater(shown, 50)

    def test_the_root_has_no_child_in_its_paper(self):
        for votes in [[], votes_for(THREE, *model.all_links(MANY))]:
            ballot = ballot_of(votes)
            self.assertEqual(final_paper(ballot, "root"), ([], ""))
            for value in [([], ""), ((), "")]:
                self.assertIs(is_final_paper(ballot, "root", value), True)
            for value in [([], "a"), ([], None), ([], []), ([], "root"), ("", ""), ([""], ""), [[], ""], ([], "", ""),
                          ([],), [], None, "", ([("root", "a")], ""), ([("root", "a")], "b"), ({}, ""), ([], 0)]:
                self.assertIs(is_final_paper(ballot, "root", value), False, value)

    def test_the_child_is_supported_from_the_block(self):
        ballot = ballot_of(votes_for(["ann", "bob"], ("root", "a"), ("a", "c"), ("a", "d"), ("root", "b")))
        self.assertEqual(final_paper(ballot, "a"), ([("root", "a")], "c"))
        for child, expected in [("c", True), ("b", False), ("d", False), ("a", False), ("root", False), ("", False),
                                (None, False), (("a", "c"), False), (["c"], False), ("gone", False)]:
            self.assertIs(is_final_paper(ballot, "a", ([("root", "a")], child)), expected)

    def test_each_of_several_children_shows_it(self):
        ballot = ballot_of(votes_for(THREE, ("root", "a"), ("a", "b"), ("a", "c")))
        self.assertIn(final_paper(ballot, "a"), [([("root", "a")], "b"), ([("root", "a")], "c")])
        for child in ["b", "c"]:
            self.assertIs(is_final_paper(ballot, "a", ([("root", "a")], child)), True)

    def test_the_paper_in_it_is_for_the_block(self):
        ballot = ballot_of(votes_for(THREE, *model.all_links(MANY)))
        for value in [([], "c"), ([("root", "a"), ("a", "c")], "d"), ([("a", "c")], "c"), ([["root", "a"]], "c"),
                      ("a", "c"), (None, "c"), ({("root", "a"): True}, "c"), [[("root", "a")], "c"]]:
            self.assertIs(is_final_paper(ballot, "a", value), False, value)

    def test_a_block_that_is_not_justified(self):
        ballot = ballot_of(votes_for(THREE, ("a", "c"), ("c", "d")))
        self.assertIsNone(final_paper(ballot, "a"))
        self.assertIs(is_final_paper(ballot, "a", ([], "c")), False)
        self.assertIs(is_final_paper(ballot, "c", ([("a", "c")], "d")), False)

    def test_values_near_a_final_paper(self):
        found = {True: 0, False: 0}
        for case in [*model.cases(25, "near final"), *model.clashing_cases(8, "near final")]:
            ballot = case.ballot()
            for block in case.final():
                shown, child = final_paper(ballot, block)
                values = [(value, child) for value in near_papers(case, shown)]
                values += [(shown, value) for value in [*case.parents, *ANY_VALUES, (child,), [child]]]
                values += [[shown, child], (shown, child, child), (shown,), (child, shown), shown, child, None,
                           {"paper": shown, "child": child}, ((shown, child),)]
                for value in values:
                    expected = is_final_paper_for(case, block, value)
                    self.assertIs(is_final_paper(ballot, block, value), expected, (block, value))
                    found[expected] += 1
        self.assertGreater(min(found.values()), 50)


class NoBlocks(Checks):
    """[20]: NoBlock."""

    def test_values_that_are_no_blocks(self):
        ballot = ballot_of(votes_for(THREE, ("root", "a"), ("a", "b")))
        for value in NO_BLOCKS:
            self.assert_given(NoBlock, value, paper, ballot, value)
            self.assert_given(NoBlock, value, final_paper, ballot, value)
            for told in [[("root", "a")], [], None, value, ([("root", "a")], "b"), ([], "")]:
                self.assert_given(NoBlock, value, is_paper, ballot, value, told)
                self.assert_given(NoBlock, value, is_final_paper, ballot, value, told)


class NothingIsTakenAway(Checks):
    """[5]: more votes and blocks never take away that a block is justified or final."""

    def test_vote_by_vote_and_block_by_block(self):
        grown = 0
        for case in [*model.cases(80, "nothing"), *model.clashing_cases(20, "nothing")]:
            ballot = case.ballot()
            before = (justified(ballot), final(ballot))
            for count, vote in enumerate(model.further_votes(case, 8)):
                ballot = ballot.with_vote(*vote).with_block("new" + "abcdefgh"[count], vote[2])
                after = (justified(ballot), final(ballot))
                self.assertLessEqual(set(before[0]), set(after[0]))
                self.assertLessEqual(set(before[1]), set(after[1]))
                grown += before != after
                before = after
        self.assertGreater(grown, 20)

    def test_in_each_order_of_the_votes(self):
        votes = [("ann", "root", "a"), ("bob", "root", "a"), ("ann", "a", "c"), ("bob", "a", "c")]
        for order in permutations(votes):
            ballot, before = ballot_of([]), ["root"]
            for vote in order:
                ballot = ballot.with_vote(*vote)
                self.assertLessEqual(set(before), set(justified(ballot)))
                before = justified(ballot)
            self.assertEqual((justified(ballot), final(ballot)), (["a", "c", "root"], ["a", "root"]))
