from fractions import Fraction
from itertools import permutations
from random import Random

from finalblocks import leavers
from finalblocks.ballots import Ballot
from finalblocks.errors import BadChoice, BadCount, BadRate, BadWeight, NoBlock, NotFinal, NoVoter
from finalblocks.leavers import (
    first_cheap, first_unsafe, left_by, queue_rounds, worst_without, worth_steps, worth_without)
from finalblocks.ratios import Ratio
from finalblocks.standing import final
from finalblocks.trees import Tree
from finalblocks.worth import worth
from tests import force, model
from tests.checks import Checks
from tests.model import fraction, number
from tests.values import ANY_VALUES, NO_NAMES, same

LINE = {"root": "", "a": "root", "c": "a"}
THREE = {"ann": 1, "bob": 1, "cy": 1}
BIG = 10 ** 59
VOTES = [(voter, *link) for voter in ["ann", "bob"] for link in [("root", "a"), ("a", "c")]]
TINY = Fraction(1, 10 ** 40)
NO_BLOCKS = [value for value in ANY_VALUES if not same(value, "a")] + ["gone", "roo", "A", "e"]
NO_VOTERS = ANY_VALUES + NO_NAMES + ["an", "anna", "root", "x"]


def without(good):
    return [value for value in ANY_VALUES if not any(same(value, other) for other in good)]


NO_AMOUNTS = without([0, 1, 10 ** 60, Ratio(1)]) + [-1, Ratio(-1, BIG), 0.5]
NO_RATES = without([1, 10 ** 60, Ratio(1)]) + [Ratio(0), -1, Ratio(-1, BIG), 0.5]
NO_COUNTS = without([0, 1, 10 ** 60]) + [-1, -BIG, Ratio(1), Ratio(0), 1.0]


def line(votes=VOTES, weights=THREE, share=Ratio(2, 3)):
    return Ballot(Tree(LINE), weights, share, votes)


class Plain:
    """What a block of a case is worth without voters, with all lots of voters tried."""

    def __init__(self, case, block):
        self.case = case
        known = case.guilty()
        self.attacking = [{*lot, *known} for lot in force.lots(list(case.weights)) if force.attack(case, block, lot)]
        self.parts = force.lots(list(case.weights))

    def without(self, left):
        return min([self.case.weight_of(lot - set(left)) for lot in self.attacking], default=None)

    def worst(self, weight):
        return min([self.without(left) for left in self.parts if self.case.weight_of(left) <= weight])


def some_blocks(count, seed):
    """Cases with one of their final blocks other than the root, and what this is worth; the same on each run."""
    random = Random(seed)
    for case in [*force.final_cases(count, seed, (3, 6)), *model.clashing_cases(count // 10, seed)]:
        block = random.choice([block for block in case.final() if block != case.root])
        yield case, block, Plain(case, block)


def gone_after(weights, queue, rate, rounds):
    """Who has left after so many rounds, round by round, weight by weight."""
    rest = {voter: weights[voter] for voter in queue}
    for _ in range(rounds):
        much = rate
        for voter in queue:
            step = min(much, rest[voter])
            rest[voter] -= step
            much -= step
    return sorted(voter for voter in queue if rest[voter] == 0)


class Examples(Checks):
    """The examples of the interface."""

    def test_them(self):
        ballot = line()
        self.assertEqual((worth_without(ballot, "a", ["cy"]).text(), worth_without(ballot, "a", ["ann"]).text(),
                          worth_without(ballot, "root", [])), ("1", "0", None))
        self.assertEqual((queue_rounds(ballot, ["cy", "ann"], Ratio(1, 2)),
                          left_by(ballot, ["cy", "ann"], Ratio(2, 3), 3),
                          first_cheap(ballot, "a", ["cy", "ann"], Ratio(1, 2), 1)),
                         ({"cy": 2, "ann": 4}, ["ann", "cy"], 4))
        self.assertEqual(([(weight.text(), told.text()) for weight, told in worth_steps(ballot, "a")],
                          worst_without(ballot, "a", Ratio(1, 2)).text()), ([("0", "1"), ("1", "0")], "1"))
        self.assertEqual((first_unsafe(ballot, "a", Ratio(1, 2), 1), first_unsafe(ballot, "a", 1, 2),
                          first_unsafe(ballot, "a", 1, 0)), (2, 0, None))
        self.assert_given(BadChoice, "ann", queue_rounds, ballot, ["ann", "ann"], 0)

    def test_where_things_stand(self):
        for name in ["worth_without", "queue_rounds", "left_by", "first_cheap", "worst_without", "worth_steps",
                     "first_unsafe"]:
            self.assertEqual(getattr(leavers, name).__module__, "finalblocks.leavers", name)

    def test_arguments_by_name(self):
        ballot = line()
        self.assertEqual(worth_without(ballot=ballot, block="a", left=[]), 1)
        self.assertEqual(queue_rounds(ballot=ballot, queue=["ann"], rate=1), {"ann": 1})
        self.assertEqual(left_by(ballot=ballot, queue=["ann"], rate=1, rounds=1), ["ann"])
        self.assertEqual(first_cheap(ballot=ballot, block="a", queue=["ann"], rate=1, least=1), 1)
        self.assertEqual(worst_without(ballot=ballot, block="a", weight=1), 0)
        self.assertEqual(worth_steps(ballot=ballot, block="a"), [(0, 1), (1, 0)])
        self.assertEqual(first_unsafe(ballot=ballot, block="a", rate=1, least=1), 1)


class Left(Checks):
    """[40]: what a block is worth without those who have left."""

    def test_against_all_lots_of_voters(self):
        less = 0
        for case, block, plain in some_blocks(50, "left"):
            ballot = case.ballot()
            for left in plain.parts:
                told = worth_without(ballot, block, left)
                self.assertIs(told.__class__, Ratio)
                self.assertEqual(fraction(told), plain.without(left))
                self.assertEqual(worth_without(ballot, block, tuple(left + left[:1])), told)
                less += 0 < fraction(told) < plain.without([])
            self.assertEqual(worth_without(ballot, block, []), worth(ballot, block))
        self.assertGreater(less, 20)

    def test_the_guilty_may_have_left(self):
        ballot = line([*VOTES, ("ann", "root", "c")])
        self.assertEqual([worth_without(ballot, "a", left).text() for left in [[], ["ann"], ["bob"], ["cy", "bob"]]],
                         ["1", "0", "1", "1"])

    def test_errors(self):
        for value in NO_BLOCKS:
            self.assert_given(NoBlock, value, worth_without, line(), value, [None])
        for ballot, block in [(line(), "c"), (line([]), "a")]:
            for left in [[], [None], ["ann"]]:
                with self.assertRaises(NotFinal):
                    worth_without(ballot, block, left)
        for value in NO_VOTERS:
            for block in ["a", "root"]:
                self.assert_given(NoVoter, value, worth_without, line(), block, [value])
                self.assert_given(NoVoter, value, worth_without, line(), block, ("ann", value, "dot"))
                self.assert_given(NoVoter, "dot", worth_without, line(), block, ["dot", value])

    def test_the_root(self):
        for case in force.final_cases(10, "root"):
            for left in [[], list(case.weights)]:
                self.assertIsNone(worth_without(case.ballot(), case.root, left))


class Queues(Checks):
    """[41]: queues, and the round in which a block becomes cheap."""

    def some_queues(self, seed, count):
        random = Random(seed)
        for case, block, plain in some_blocks(count, seed):
            queue = random.sample(list(case.weights), random.randrange(len(case.weights) + 1))
            yield case, block, plain, queue, Fraction(random.randrange(1, 9), random.choice([1, 2, 3, 7]))

    def test_against_a_queue_gone_through_round_by_round(self):
        for case, _, _, queue, rate in self.some_queues("rounds", 60):
            ballot = case.ballot()
            told = queue_rounds(ballot, queue, number(rate))
            self.assertEqual(set(told), set(queue))
            last = max(told.values(), default=0)
            for rounds in range(last + 2):
                gone = gone_after(case.weights, queue, rate, rounds)
                self.assertEqual(left_by(ballot, queue, number(rate), rounds), gone)
                self.assertEqual(gone, sorted(voter for voter in queue if told[voter] <= rounds))
            self.assertTrue(all(rounds.__class__ is int for rounds in told.values()))
            self.assertEqual(queue_rounds(ballot, tuple(queue), number(rate)), told)

    def test_rates(self):
        weights = {"ann": 2, "bob": 3, "cy": Ratio(1, 2)}
        for queue, rate, expected in [
                (["ann", "bob", "cy"], 1, {"ann": 2, "bob": 5, "cy": 6}),
                (["ann", "bob", "cy"], Ratio(1, 2), {"ann": 4, "bob": 10, "cy": 11}),
                (["ann", "bob", "cy"], Ratio(3, 4), {"ann": 3, "bob": 7, "cy": 8}),
                (["cy", "bob", "ann"], Ratio(3, 2), {"cy": 1, "bob": 3, "ann": 4}),
                (["cy", "bob", "ann"], 100, {"cy": 1, "bob": 1, "ann": 1}),
                (["bob"], Ratio(3 * BIG, BIG + 1), {"bob": 2}), (["bob"], 3, {"bob": 1}),
                (["bob"], Ratio(3 * BIG, BIG - 1), {"bob": 1}), (["bob"], Ratio(1, BIG), {"bob": 3 * BIG}),
                ([], 1, {})]:
            ballot = line(weights=weights)
            self.assertEqual(queue_rounds(ballot, queue, rate), expected)
            for voter, rounds in expected.items():
                self.assertIn(voter, left_by(ballot, queue, rate, rounds))
                self.assertNotIn(voter, left_by(ballot, queue, rate, rounds - 1))
            self.assertEqual(left_by(ballot, queue, rate, 0), [])
            self.assertEqual(left_by(ballot, queue, rate, 10 ** 70), sorted(queue))

    def test_the_first_cheap_round(self):
        found = set()
        for case, block, plain, queue, rate in self.some_queues("cheap", 60):
            ballot = case.ballot()
            last = max(queue_rounds(ballot, queue, number(rate)).values(), default=0)
            worths = [plain.without(gone_after(case.weights, queue, rate, rounds)) for rounds in range(last + 1)]
            for least in {0, worths[0], worths[-1], worths[-1] + TINY, worths[0] + 1, worths[0] / 2}:
                expected = next((rounds for rounds, told in enumerate(worths) if told < least), None)
                told = first_cheap(ballot, block, queue, number(rate), number(least))
                self.assertTrue(same(told, expected))
                found.add(told)
        self.assertGreaterEqual(len(found), 5)
        self.assertLessEqual({None, 0}, found)

    def test_never_cheap(self):
        self.assertIsNone(first_cheap(line(), "a", ["ann", "bob", "cy"], 1, 0))
        self.assertIsNone(first_cheap(line(), "a", ["cy"], 1, 1))
        self.assertIsNone(first_cheap(line(), "a", [], 1, 1))
        self.assertEqual(first_cheap(line(), "a", [], 1, 2), 0)
        for queue in [[], ["ann", "bob", "cy"]]:
            self.assertIsNone(first_cheap(line(), "root", queue, 1, 5))

    def test_several_leave_in_one_round(self):
        votes = [(voter, *link) for voter in THREE for link in [("root", "a"), ("a", "c")]]
        for rate, expected in [(3, 1), (1, 2), (2, 1), (Ratio(1, 2), 4), (Ratio(199, 100), 2)]:
            self.assertEqual(first_cheap(line(votes), "a", ["ann", "cy", "bob"], rate, 1), expected)

    def test_errors(self):
        calls = [lambda ballot, queue, rate: queue_rounds(ballot, queue, rate),
                 lambda ballot, queue, rate: left_by(ballot, queue, rate, -1),
                 lambda ballot, queue, rate: first_cheap(ballot, "a", queue, rate, -1),
                 lambda ballot, queue, rate: first_cheap(ballot, "root", queue, rate, -1)]
        for call in calls:
            for value in NO_VOTERS:
                self.assert_given(NoVoter, value, call, line(), [value], 0)
                self.assert_given(NoVoter, value, call, line(), ("ann", "ann", value, "dot"), 1)
            for queue, first in [(["ann", "ann"], "ann"), (["cy", "ann", "bob", "ann", "cy"], "ann"),
                                 (("bob", "cy", "cy", "bob", "bob"), "cy")]:
                self.assert_given(BadChoice, first, call, line(), queue, 0)
                self.assert_given(BadChoice, first, call, line(), queue, 1)
            for value in NO_RATES:
                self.assert_given(BadRate, value, call, line(), ["ann"], value)
                self.assert_given(BadRate, value, call, line(), [], value)
        for value in NO_COUNTS:
            self.assert_given(BadCount, value, left_by, line(), ["ann"], 1, value)
        for value in NO_AMOUNTS:
            for block in ["a", "root"]:
                self.assert_given(BadWeight, value, first_cheap, line(), block, ["ann"], 1, value)
        for value in NO_BLOCKS:
            self.assert_given(NoBlock, value, first_cheap, line(), value, [None], 0, -1)
        with self.assertRaises(NotFinal):
            first_cheap(line(), "c", [None], 0, -1)

    def test_dicts_and_lists_are_new_on_each_call(self):
        queue = ["cy", "ann"]
        queue_rounds(line(), queue, 1).clear()
        left_by(line(), queue, 1, 5).clear()
        self.assertEqual((queue_rounds(line(), queue, 1), left_by(line(), queue, 1, 5), queue),
                         ({"cy": 1, "ann": 2}, ["ann", "cy"], ["cy", "ann"]))


class Worst(Checks):
    """[42]: what a block is worth without any voters of some weight."""

    def test_against_all_lists_of_voters(self):
        for case, block, plain in some_blocks(40, "worst"):
            ballot = case.ballot()
            for left in plain.parts:
                weight = case.weight_of(left)
                for near in [weight, weight + TINY, weight - TINY, weight + Fraction(1, 3), weight * 5]:
                    if near >= 0:
                        told = worst_without(ballot, block, number(near))
                        self.assertIs(told.__class__, Ratio)
                        self.assertEqual(fraction(told), plain.worst(near))

    def test_steps(self):
        sizes = set()
        for case, block, plain in some_blocks(60, "steps"):
            ballot = case.ballot()
            told = worth_steps(ballot, block)
            self.assertTrue(all(pair.__class__ is tuple and [part.__class__ for part in pair] == [Ratio, Ratio]
                                for pair in told))
            steps = [(fraction(weight), fraction(least)) for weight, least in told]
            self.assertEqual(steps[0], (0, plain.without([])))
            for (weight, least), (further, less) in zip(steps, steps[1:]):
                self.assertTrue(weight < further and least > less)
            # At each step, between two, and beyond the last one.
            ends = [weight for weight, _ in steps[1:]] + [case.whole() * 2 + 1]
            for (weight, least), end in zip(steps, ends):
                for between in [weight, (weight + end) / 2, end - TINY]:
                    self.assertEqual(plain.worst(between), least)
                    self.assertEqual(fraction(worst_without(ballot, block, number(between))), least)
            self.assertEqual(steps[-1][1], 0)
            sizes.add(len(steps))
        self.assertGreaterEqual(len(sizes), 3)

    def test_some_steps(self):
        votes = [(voter, *link) for voter in THREE for link in [("root", "a"), ("a", "c")]]
        for ballot, expected in [
                (line(), [(0, 1), (1, 0)]), (line(votes), [(0, 2), (1, 1), (2, 0)]),
                (line(votes, share=1), [(0, 3), (1, 2), (2, 1), (3, 0)]),
                (line([*VOTES, ("ann", "root", "c")]), [(0, 1), (1, 0)]),
                (line(votes, {"ann": 1, "bob": 2, "cy": 4}), [(0, 5), (1, 4), (4, 1), (5, 0)]),
                (line(votes, {"ann": 1, "bob": 1, "cy": 4}), [(0, 4), (4, 0)])]:
            self.assertEqual(worth_steps(ballot, "a"), expected)
            self.assertEqual(worth_steps(ballot, "root"), [])
            worth_steps(ballot, "a").clear()
            self.assertEqual(worth_steps(ballot, "a"), expected)

    def test_lots_of_equal_weight_that_do_not_help_equally(self):
        # Without ann and c together it is worth 3, but without dd, who has the same weight, 2.
        weights = {"ann": 2, "bob": 3, "c": 2, "dd": 4, "eve": 4}
        votes = [(voter, *link) for voter in ["ann", "bob", "c", "dd"] for link in [("root", "a"), ("a", "c")]]
        ballot = line(votes, weights)
        self.assertEqual([worth_without(ballot, "a", left).text() for left in [["ann", "c"], ["dd"]]], ["3", "2"])
        self.assertEqual(worth_steps(ballot, "a"), [(0, 6), (2, 4), (4, 2), (6, 0)])
        # The other way round, too, when dd comes first.
        renamed = {"ann": "y", "bob": "bob", "c": "z", "dd": "dd", "eve": "eve"}
        ballot = line([(renamed[voter], *link) for voter, *link in votes],
                      {renamed[voter]: weight for voter, weight in weights.items()})
        self.assertEqual(worth_steps(ballot, "a"), [(0, 6), (2, 4), (4, 2), (6, 0)])

    def test_main_statement(self):
        for case, block, plain in some_blocks(40, "bound"):
            for left in plain.parts:
                weight = case.weight_of(left)
                least = case.least_blame() - weight
                self.assertGreaterEqual(fraction(worth_without(case.ballot(), block, left)), least)
                self.assertGreaterEqual(fraction(worst_without(case.ballot(), block, number(weight))), least)

    def test_first_unsafe(self):
        found = set()
        for case, block, plain in some_blocks(50, "unsafe"):
            ballot = case.ballot()
            for rate in [Fraction(1), Fraction(1, 2), Fraction(5, 7), case.whole(), case.whole() * 3]:
                for least in [Fraction(0), TINY, plain.without([]), plain.without([]) + TINY, plain.without([]) / 2]:
                    last = int(case.whole() / rate) + 2
                    expected = next((rounds for rounds in range(last) if plain.worst(rounds * rate) < least), None)
                    told = first_unsafe(ballot, block, number(rate), number(least))
                    self.assertTrue(same(told, expected))
                    found.add(told)
        self.assertGreaterEqual(len(found), 5)
        self.assertIn(None, found)

    def test_rates_that_divide_a_weight_and_such_that_do_not(self):
        votes = [(voter, *link) for voter in THREE for link in [("root", "a"), ("a", "c")]]
        ballot = line(votes, {"ann": 1, "bob": 2, "cy": 4})
        for rate, least, expected in [
                (1, 5, 1), (1, 4, 4), (1, 1, 5), (2, 5, 1), (2, 4, 2), (2, 1, 3), (Ratio(4, 3), 4, 3),
                (Ratio(5, 2), 1, 2), (Ratio(4 * BIG, BIG + 1), 4, 2),
                (Ratio(4 * BIG, BIG - 1), 4, 1), (100, 1, 1), (1, 6, 0), (1, 0, None),
                (Ratio(1, BIG), Ratio(1, BIG), 5 * BIG)]:
            self.assertEqual(first_unsafe(ballot, "a", rate, least), expected)

    def test_the_root(self):
        self.assertIsNone(worst_without(line(), "root", 3))
        self.assertEqual(worth_steps(line(), "root"), [])
        self.assertIsNone(first_unsafe(line(), "root", 1, 5))

    def test_errors(self):
        calls = [lambda ballot, block: worst_without(ballot, block, -1), worth_steps,
                 lambda ballot, block: first_unsafe(ballot, block, 0, -1)]
        for call in calls:
            for value in NO_BLOCKS:
                self.assert_given(NoBlock, value, call, line(), value)
            for ballot, block in [(line(), "c"), (line([]), "a")]:
                with self.assertRaises(NotFinal):
                    call(ballot, block)
        for block in ["a", "root"]:
            for value in NO_AMOUNTS:
                self.assert_given(BadWeight, value, worst_without, line(), block, value)
                self.assert_given(BadWeight, value, first_unsafe, line(), block, 1, value)
            for value in NO_RATES:
                self.assert_given(BadRate, value, first_unsafe, line(), block, value, -1)

    def test_the_order_of_the_voters_makes_no_difference(self):
        weights = {"ann": 1, "bob": 2, "cy": 4}
        votes = [(voter, *link) for voter in THREE for link in [("root", "a"), ("a", "c")]]
        for order in permutations(weights):
            ballot = line(votes, {voter: weights[voter] for voter in order})
            self.assertEqual(worth_steps(ballot, "a"), [(0, 5), (1, 4), (4, 1), (5, 0)])

    def test_the_sizes_of_the_limits(self):
        names = [one + other for one in "abcd" for other in "abcdef"]
        voters = ["v" + letter for letter in "abcdefg"]
        random = Random("sizes")
        for parents in [{name: names[at - 1] if at else "" for at, name in enumerate(names)},
                        {name: names[(at - 1) // 2] if at else "" for at, name in enumerate(names)}]:
            tall = model.branch(parents, names[-1])
            weights = {voter: Ratio(random.randrange(10 ** 58, 10 ** 60), 10 ** 59 + 1) for voter in voters}
            votes = [(voter, *link) for link in zip(tall, tall[1:]) for voter in voters][:120]
            ballot = Ballot(Tree(parents), weights, Ratio(2, 3), votes)
            block = final(ballot)[1]
            steps = worth_steps(ballot, block)
            self.assertEqual(steps[0][1], worth(ballot, block))
            for weight, least in steps:
                self.assertEqual(worst_without(ballot, block, weight), least)
            self.assertIsNone(first_unsafe(ballot, block, Ratio(1, BIG), 0))
            self.assertEqual(first_cheap(ballot, block, voters, ballot.whole(), Ratio(1, BIG)), 1)


if __name__ == "__main__":
    import unittest
    unittest.main()
