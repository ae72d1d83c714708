from fractions import Fraction
from itertools import product
from random import Random

from finalblocks import heads
from finalblocks.errors import BadChoice, BadName, BadWeight, NoBlock, NoWay
from finalblocks.heads import Choices, newcomers, stays, turners, turning
from finalblocks.ratios import Ratio
from finalblocks.trees import Tree
from tests import model
from tests.checks import Checks
from tests.force import lots
from tests.values import ANY_VALUES, FIT_FOR_KEYS, NO_NAMES, same

PARENTS = {"root": "", "a": "root", "b": "root", "c": "a", "d": "a"}
TREE = Tree(PARENTS)
WEIGHTS = {"ann": 3, "bob": 2, "cy": 2, "dot": 1}
CHOSEN = {"ann": "c", "bob": "b", "cy": "d"}
TINY = Fraction(1, 10 ** 40)
NO_BLOCKS = [value for value in ANY_VALUES if not same(value, "a")] + ["gone", "roo", "A", "ann"]
NO_VOTERS = ANY_VALUES + NO_NAMES + ["an", "anna", "root"]
NO_WEIGHTS = [value for value in ANY_VALUES if not any(same(value, good) for good in [1, 10 ** 60, Ratio(1)])]
NO_WEIGHTS += [-1, Ratio(-1, 10 ** 59), Ratio(-2), 0.5]
NO_AMOUNTS = [value for value in NO_WEIGHTS if not same(value, 0)]


def choices_of(chosen=CHOSEN, weights=WEIGHTS, parents=PARENTS):
    return Choices(Tree(parents), weights, chosen)


class Plain:
    """The plain parts of choices, and what the document says of them."""

    def __init__(self, parents, weights, chosen):
        self.parents, self.weights, self.chosen = parents, weights, chosen
        self.branches = {block: model.branch(parents, block) for block in parents}

    def choices(self):
        return Choices(Tree(self.parents), {voter: model.number(weight) for voter, weight in self.weights.items()},
                       self.chosen)

    def load(self, block):
        return sum([self.weights[voter] for voter, choice in self.chosen.items() if block in self.branches[choice]],
                   Fraction(0))

    def way(self, start):
        children = sorted(block for block in self.parents if self.parents[block] == start)
        if not children:
            return [start]
        best = max(self.load(child) for child in children)
        return [start, *self.way([child for child in children if self.load(child) == best][0])]

    def turned(self, more):
        return Plain(self.parents, self.weights, {**self.chosen, **more})

    def turners(self, start, block):
        """The least weight of voters who can turn the way, with all of their choices tried."""
        found = []
        for told in product([None, *self.parents], repeat=len(self.weights)):
            more = {voter: choice for voter, choice in zip(self.weights, told) if choice is not None}
            weight = sum([self.weights[voter] for voter in more], Fraction(0))
            if (not found or weight < min(found)) and block not in self.turned(more).way(start):
                found.append(weight)
        return min(found, default=None)

    def newcomers_can(self, start, block, weight):
        """Whether new voters of a weight can turn the way, all to one block or half of them each to one of two."""
        halves = {**self.weights, "newone": weight / 2, "newtwo": weight / 2}
        for one, other in product(self.parents, self.parents):
            told = Plain(self.parents, halves, {**self.chosen, "newone": one, "newtwo": other})
            if block not in told.way(start):
                return True
        return False


def some_choices(count, seed, sizes=(1, 7), most=5):
    random = Random(seed)
    for _ in range(count):
        parents = model.random_parents(random, random.randrange(*sizes))
        voters = random.sample(["ann", "bob", "an", "c", "dd"], random.randrange(1, most))
        weights = {voter: Fraction(random.randrange(1, 4), random.choice([1, 1, 2])) for voter in voters}
        chosen = {voter: random.choice(list(parents)) for voter in voters if random.random() < 0.8}
        yield Plain(parents, weights, chosen)


class Examples(Checks):
    """The examples of the interface."""

    def test_them(self):
        tree = Tree({"root": "", "a": "root", "b": "root", "c": "a", "d": "a"})
        choices = Choices(tree, {"ann": 3, "bob": 2, "cy": 2, "dot": 1}, {"ann": "c", "bob": "b", "cy": "d"})
        self.assertEqual((choices.load("a").text(), choices.way("root"), choices.head("b"),
                          choices.moved("dot", "d").head("root")), ("5", ["root", "a", "c"], "b", "c"))
        self.assertEqual((turners(choices, "root", "a").text(), turners(choices, "root", "c").text(),
                          [number.text() for number in newcomers(choices, "root", "a")[:1]]), ("2", "2", ["3"]))
        self.assertEqual((stays(choices, "root", "a", 1), turners(choices, "c", "c") is None), (True, True))
        self.assert_given(NoBlock, "e", choices.way, "e")

    def test_where_things_stand(self):
        for name in ["Choices", "turners", "turning", "newcomers", "stays"]:
            self.assertEqual(getattr(heads, name).__module__, "finalblocks.heads", name)
        for name in ["__init__", "load", "chosen", "way", "head", "moved"]:
            self.assertIn(name, Choices.__dict__)

    def test_arguments_by_name(self):
        choices = Choices(tree=TREE, weights=WEIGHTS, chosen=CHOSEN)
        self.assertEqual(choices.load(block="a"), 5)
        self.assertEqual(choices.way(start="a"), ["a", "c"])
        self.assertEqual(choices.head(start="root"), "c")
        self.assertEqual(choices.moved(voter="dot", block="d").load("d"), 3)
        self.assertEqual(turners(choices=choices, start="root", block="a"), 2)
        self.assertEqual(turning(choices=choices, start="root", block="a"), {"cy": "b"})
        self.assertEqual(newcomers(choices=choices, start="root", block="a"), (3, True))
        self.assertIs(stays(choices=choices, start="root", block="a", weight=2), False)


class Making(Checks):
    """[33]: the errors in their order."""

    def test_bad_names(self):
        for key in NO_NAMES + [value for value in FIT_FOR_KEYS if value != "a"]:
            self.assert_given(BadName, key, Choices, TREE, {key: 1}, {})
            self.assert_given(BadName, key, Choices, TREE, {"ann": 0, key: 1, "B": 2}, {"x": "a"})

    def test_bad_weights(self):
        for value in NO_WEIGHTS + [0, Ratio(0)]:
            self.assert_given(BadWeight, value, Choices, TREE, {"ann": value}, {})
            self.assert_given(BadWeight, value, Choices, TREE, {"bob": 1, "ann": value, "cy": -1}, {"x": "a"})

    def test_choices_of_no_voters(self):
        for value in FIT_FOR_KEYS + NO_NAMES + ["an", "root"]:
            for block in ["a", "gone", None]:
                self.assert_given(BadChoice, (value, block), Choices, TREE, WEIGHTS, {value: block})
                self.assert_given(BadChoice, (value, block), Choices, TREE, WEIGHTS,
                                  {"ann": "a", value: block, "x": "a"})

    def test_choices_of_no_blocks(self):
        for value in NO_BLOCKS:
            self.assert_given(BadChoice, ("ann", value), Choices, TREE, WEIGHTS, {"ann": value})
            self.assert_given(BadChoice, ("ann", value), Choices, TREE, WEIGHTS, {"bob": "a", "ann": value, "x": None})

    def test_dicts_that_were_passed_are_copied(self):
        weights, chosen = dict(WEIGHTS), dict(CHOSEN)
        choices = Choices(TREE, weights, chosen)
        weights["ann"], chosen["ann"] = 100, "b"
        weights["new"] = 1
        self.assertEqual((choices.load("a"), choices.chosen()), (5, CHOSEN))
        choices.chosen()["ann"] = "b"
        self.assertEqual(choices.chosen(), CHOSEN)
        self.assertIsNot(choices.chosen(), choices.chosen())
        choices.way("root").append("more")
        self.assertEqual(choices.way("root"), ["root", "a", "c"])


class Ways(Checks):
    """[33], [34]: loads, the way to the head, and choices that move."""

    def test_random_choices(self):
        for plain in some_choices(100, "ways"):
            choices = plain.choices()
            self.assertEqual(choices.chosen(), plain.chosen)
            for block in plain.parents:
                self.assertIs(choices.load(block).__class__, Ratio)
                self.assertEqual(model.fraction(choices.load(block)), plain.load(block))
                self.assertEqual(choices.way(block), plain.way(block))
                self.assertEqual(choices.head(block), plain.way(block)[-1])

    def test_voters_without_a_choice_and_choices_of_the_root(self):
        for chosen, loads, way in [
                ({}, [0, 0, 0, 0, 0], ["root", "a", "c"]), ({"ann": "root"}, [3, 0, 0, 0, 0], ["root", "a", "c"]),
                ({"dot": "b", "ann": "root"}, [4, 0, 1, 0, 0], ["root", "b"]),
                ({"bob": "a", "cy": "d"}, [4, 4, 0, 0, 2], ["root", "a", "d"]),
                # Equal loads: the first one in ascending order.
                ({"bob": "b", "cy": "a"}, [4, 2, 2, 0, 0], ["root", "a", "c"]),
                ({"bob": "d", "cy": "c"}, [4, 4, 0, 2, 2], ["root", "a", "c"])]:
            choices = choices_of(chosen)
            self.assertEqual([choices.load(block) for block in ["root", "a", "b", "c", "d"]], loads)
            self.assertEqual(choices.way("root"), way)

    def test_ascending_order_is_that_of_the_names(self):
        parents = {"r": "", "b": "r", "ab": "r", "abc": "r", "a": "b"}
        self.assertEqual(Choices(Tree(parents), WEIGHTS, {}).way("r"), ["r", "ab"])
        self.assertEqual(Choices(Tree(parents), WEIGHTS, {"bob": "abc", "cy": "a"}).way("r"), ["r", "abc"])
        self.assertEqual(Choices(Tree(parents), WEIGHTS, {"bob": "abc", "ann": "a"}).way("r"), ["r", "b", "a"])

    def test_large_and_small_weights(self):
        big = 10 ** 59
        choices = choices_of({"ann": "c", "bob": "b", "cy": "b"}, {"ann": big, "bob": big - 1, "cy": Ratio(1, big)})
        self.assertEqual(choices.head("root"), "c")
        choices = choices_of({"ann": "c", "bob": "b", "cy": "b"},
                             {"ann": big, "bob": big - 1, "cy": Ratio(big + 1, big)})
        self.assertEqual(choices.head("root"), "b")

    def test_moved(self):
        choices = choices_of()
        for voter, block, way in [("dot", "b", ["root", "a", "c"]), ("cy", "b", ["root", "a", "c"]),
                                  ("ann", "b", ["root", "b"]), ("ann", "c", ["root", "a", "c"]),
                                  ("cy", "d", ["root", "a", "c"]), ("bob", "d", ["root", "a", "d"])]:
            told = choices.moved(voter, block)
            self.assertIs(told.__class__, Choices)
            self.assertEqual(told.chosen(), {**CHOSEN, voter: block})
            self.assertEqual(told.way("root"), Plain(PARENTS, WEIGHTS, {**CHOSEN, voter: block}).way("root"))
            self.assertEqual(choices.chosen(), CHOSEN)
            self.assertEqual(choices.way("root"), ["root", "a", "c"])
        self.assertEqual(choices.moved("cy", "b").moved("dot", "b").way("root"), ["root", "b"])

    def test_errors(self):
        choices = choices_of()
        for value in NO_BLOCKS:
            for method in [choices.load, choices.way, choices.head]:
                self.assert_given(NoBlock, value, method, value)
            self.assert_given(BadChoice, ("ann", value), choices.moved, "ann", value)
            for method in [choices_of({}).load, choices_of({}).way, choices_of({}).head]:
                self.assert_given(NoBlock, value, method, value)
        for value in NO_VOTERS:
            self.assert_given(BadChoice, (value, "a"), choices.moved, value, "a")
            self.assert_given(BadChoice, (value, value), choices.moved, value, value)


class Turning(Checks):
    """[35]: the least weight of voters who can turn the way."""

    def assert_turned(self, plain, start, block):
        choices, expected = plain.choices(), plain.turners(start, block)
        told, shown = turners(choices, start, block), turning(choices, start, block)
        if expected is None:
            self.assertIsNone(told)
            self.assertIsNone(shown)
            return
        self.assertIs(told.__class__, Ratio)
        self.assertEqual(model.fraction(told), expected)
        self.assertIs(shown.__class__, dict)
        self.assertEqual(sum(plain.weights[voter] for voter in shown), expected)
        self.assertTrue(all(choice != plain.chosen.get(voter) for voter, choice in shown.items()))
        self.assertNotIn(block, plain.turned(shown).way(start))
        for voter, choice in shown.items():
            choices = choices.moved(voter, choice)
        self.assertNotIn(block, choices.way(start))

    def test_all_turnings_of_all_lots_of_voters(self):
        found = 0
        for plain in some_choices(60, "turnings"):
            for start in plain.parents:
                for block in plain.way(start):
                    self.assert_turned(plain, start, block)
                    found += block != start
        self.assertGreater(found, 100)

    def test_none_where_it_cannot_be(self):
        line = {"root": "", "a": "root", "c": "a"}
        for chosen in [{}, {"ann": "c"}, {"ann": "root", "bob": "a"}]:
            choices = choices_of(chosen, parents=line)
            for start, block in [("root", "root"), ("root", "a"), ("root", "c"), ("a", "c"), ("c", "c")]:
                for function in [turners, turning, newcomers]:
                    self.assertIsNone(function(choices, start, block))
                self.assertIs(stays(choices, start, block, 10 ** 60), True)

    def test_just_enough_weight_and_a_little_less(self):
        # Of the weight 4 the half has to turn to the first child in ascending order, more than it to a later one.
        for child, weight, expected in [
                ("b", 2, 2), ("b", Ratio(199, 100), Ratio(201, 100)), ("b", Ratio(201, 100), Ratio(201, 100)),
                ("z", 2, 4), ("z", Ratio(199, 100), Ratio(201, 100)), ("z", Ratio(201, 100), Ratio(201, 100))]:
            parents = {"root": "", "m": "root", child: "root"}
            weights = {"ann": weight, "bob": Ratio(4) - weight}
            choices = Choices(Tree(parents), weights, {"ann": "m", "bob": "m"})
            self.assertEqual(turners(choices, "root", "m"), expected)
            self.assertEqual(choices.weight_of(list(turning(choices, "root", "m"))), expected)
            self.assertEqual(set(turning(choices, "root", "m").values()), {child})

    def test_voters_of_the_block_count_twice(self):
        # The gap is 2: dot, who has not chosen, is not enough, but ann is, who chose the block.
        choices = choices_of({"ann": "m", "bob": "m", "cy": "z"}, {"ann": 2, "bob": 1, "cy": 1, "dot": 2},
                             {"root": "", "m": "root", "z": "root"})
        self.assertEqual(turning(choices, "root", "m"), {"ann": "z"})
        choices = choices_of({"ann": "m", "bob": "m", "cy": "z"}, {"ann": 5, "bob": 5, "cy": 8, "dot": 3},
                             {"root": "", "m": "root", "z": "root"})
        self.assertEqual(turning(choices, "root", "m"), {"dot": "z"})

    def test_farther_down_the_way(self):
        parents = {"root": "", "a": "root", "b": "root", "c": "a", "d": "a", "e": "c", "f": "c"}
        weights = {"ann": 9, "bob": 5, "cy": 4, "dot": 2, "eve": 1}
        chosen = {"ann": "root", "bob": "b", "cy": "e", "dot": "d", "eve": "c"}
        plain = Plain(parents, {voter: Fraction(weight) for voter, weight in weights.items()}, chosen)
        for block in plain.way("root"):
            self.assert_turned(plain, "root", block)

    def test_errors(self):
        choices = choices_of()
        for function in [turners, turning, newcomers, lambda *args: stays(*args, 1)]:
            for value in NO_BLOCKS:
                self.assert_given(NoBlock, value, function, choices, value, "a")
                self.assert_given(NoBlock, value, function, choices, "root", value)
                self.assert_given(NoBlock, value, function, choices, "b", value)
                self.assert_given(NoBlock, value, function, choices, value, "gone")
                self.assert_given(NoBlock, "gone", function, choices, "gone", value)
            for start, block in [("root", "b"), ("root", "d"), ("a", "root"), ("a", "d"), ("b", "a"), ("c", "a")]:
                with self.assertRaises(NoWay):
                    function(choices, start, block)

    def test_dicts_are_new_on_each_call(self):
        choices = choices_of()
        kept = turning(choices, "root", "a")
        turning(choices, "root", "a").clear()
        self.assertEqual(turning(choices, "root", "a"), kept)
        self.assertEqual(choices.chosen(), CHOSEN)

    def test_the_sizes_of_the_limits(self):
        names = [one + other for one in "abcd" for other in "abcdef"]
        voters = ["v" + letter for letter in "abcdefg"]
        random = Random("sizes")
        for parents in [{name: names[0] if at else "" for at, name in enumerate(names)},
                        {name: names[(at - 1) // 2] if at else "" for at, name in enumerate(names)}]:
            weights = {voter: Ratio(random.randrange(10 ** 58, 10 ** 60), 10 ** 59 + 3) for voter in voters}
            choices = Choices(Tree(parents), weights, {voter: random.choice(names[-4:]) for voter in voters[1:]})
            head = choices.head(names[0])
            turned = turning(choices, names[0], head)
            self.assertEqual(choices.weight_of(list(turned)), turners(choices, names[0], head))
            for voter, block in turned.items():
                choices = choices.moved(voter, block)
            self.assertNotEqual(choices.head(names[0]), head)


class Newcomers(Checks):
    """[36]: the weight of new voters who can turn the way, and what a block stands."""

    def test_random_choices(self):
        found = {None: 0, True: 0, False: 0}
        for plain in some_choices(80, "newcomers"):
            choices = plain.choices()
            for start in plain.parents:
                for block in plain.way(start):
                    told = newcomers(choices, start, block)
                    found[told and told[1]] += 1
                    if told is None:
                        self.assertFalse(plain.newcomers_can(start, block, Fraction(1000)))
                        continue
                    self.assertEqual([told.__class__, told[0].__class__, told[1].__class__], [tuple, Ratio, bool])
                    weight = model.fraction(told[0])
                    self.assertIs(plain.newcomers_can(start, block, weight), not told[1])
                    self.assertIs(plain.newcomers_can(start, block, weight + TINY), True)
                    if weight > 0:
                        self.assertIs(plain.newcomers_can(start, block, weight - TINY), False)
        self.assertGreater(min(found.values()), 20)

    def test_more_and_not_more(self):
        for parents, chosen, expected in [
                ({"root": "", "a": "root", "b": "root"}, {"ann": "a", "bob": "b"}, (1, True)),
                ({"root": "", "b": "root", "c": "root"}, {"ann": "c", "bob": "b"}, (1, False)),
                ({"root": "", "a": "root", "b": "root"}, {"cy": "a", "bob": "b"}, (0, True)),
                ({"root": "", "a": "root", "b": "root"}, {}, (0, True)),
                # Of two with the same weight the one that needs no more.
                ({"root": "", "a": "root", "b": "root", "c": "root"}, {"ann": "b", "bob": "c", "cy": "a"}, (1, False)),
                ({"root": "", "m": "root", "z": "root", "n": "m", "o": "m"}, {"ann": "n", "bob": "z", "cy": "o"},
                 (1, True))]:
            choices = choices_of(chosen, parents=parents)
            told = newcomers(choices, "root", choices.head("root"))
            self.assertEqual(told, expected)
            self.assertIs(told[1], expected[1])

    def test_forks_at_different_heights(self):
        parents = {"root": "", "m": "root", "z": "root", "n": "m", "o": "m"}
        for bob, cy, dot, expected in [(2, 4, 0, (1, False)), (2, 3, 0, (1, False)), (1, 3, 0, (1, True)),
                                       (1, 4, 1, (1, True)), (2, 2, 0, (1, False)), (0, 1, 0, (2, True))]:
            weights = {"ann": 3, "bob": bob, "cy": cy, "dot": dot}
            chosen = {voter: block for voter, block in [("ann", "o"), ("bob", "n"), ("cy", "z"), ("dot", "m")]
                      if weights[voter]}
            choices = choices_of(chosen, {voter: weights[voter] for voter in chosen}, parents)
            self.assertEqual(choices.head("root"), "o")
            told = newcomers(choices, "root", "o")
            self.assertEqual(told, expected)
            self.assertIs(told[1], expected[1])

    def test_stays(self):
        for plain in some_choices(60, "stays"):
            choices = plain.choices()
            for start in plain.parents:
                for block in plain.way(start):
                    least = plain.turners(start, block)
                    weights = [Fraction(0), Fraction(1, 2), Fraction(100)]
                    weights += [least - TINY, least, least + TINY] if least is not None else []
                    for weight in weights:
                        self.assertIs(stays(choices, start, block, model.number(weight)),
                                      least is None or weight < least)

    def test_stays_at_just_the_least_weight(self):
        choices = choices_of()
        for weight, expected in [(0, True), (Ratio(0), True), (1, True), (Ratio(199, 100), True), (2, False),
                                 (Ratio(2), False), (3, False), (10 ** 60, False)]:
            self.assertIs(stays(choices, "root", "a", weight), expected)

    def test_bad_weights(self):
        choices = choices_of()
        for value in NO_AMOUNTS:
            self.assert_given(BadWeight, value, stays, choices, "root", "a", value)
            # It comes ahead of NoBlock and NoWay.
            self.assert_given(BadWeight, value, stays, choices, "gone", "a", value)
            self.assert_given(BadWeight, value, stays, choices, "root", None, value)
            self.assert_given(BadWeight, value, stays, choices, "b", "a", value)

    def test_lots_of_voters_of_every_size(self):
        for voters in lots(list(WEIGHTS)):
            chosen = {voter: "c" for voter in voters}
            plain = Plain(PARENTS, {voter: Fraction(weight) for voter, weight in WEIGHTS.items()}, chosen)
            self.assertEqual(model.fraction(turners(choices_of(chosen), "root", "c")), plain.turners("root", "c"))


if __name__ == "__main__":
    import unittest
    unittest.main()
