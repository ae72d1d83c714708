from fractions import Fraction
from random import Random

from finalblocks import house as house_file
from finalblocks.ballots import Ballot
from finalblocks.errors import (
    BadLine, BadName, BadParent, BadShare, BadVote, BadWeight, BlockError, InUse, NothingToRedo, NothingToUndo, NoVoter)
from finalblocks.house import House
from finalblocks.ratios import Ratio
from finalblocks.trees import Tree
from tests import model
from tests.checks import Checks
from tests.values import ANY_VALUES, FIT_FOR_KEYS, NO_NAMES, same

THREE = {"ann": 1, "bob": 1, "cy": 1}
TWO_THIRDS = Ratio(2, 3)
NAMES = ["a", "b", "c", "d", "e", "f"]
NO_WEIGHTS = [value for value in ANY_VALUES if not any(same(value, good) for good in [1, 10 ** 60, Ratio(1)])]
NO_SHARES = [value for value in ANY_VALUES if not any(same(value, good) for good in [1, Ratio(1)])] + [Ratio(1, 2), 2]
NO_BLOCKS = NO_NAMES + [value for value in ANY_VALUES if value != "a"]
NO_VOTERS = ANY_VALUES + NO_NAMES + ["an", "anna", "root", "x"]


def house_of(*lines, weights=THREE, share=TWO_THIRDS, root="root"):
    """A house after some steps, each told by its line."""
    house = House(weights, share, root)
    for told in lines:
        hand_in(house, tuple(told.split()))
    return house


def hand_in(house, step):
    if step[0] == "block":
        return house.block(*step[1:])
    return house.vote(*step[1:])


def look(house):
    """All that can be seen of a house, with all that can be taken back and done again left out."""
    return (house.ballot().tree().text(), house.ballot().votes(), house.waiting(), len(house), house.news(),
            house.text())


def whole_look(house):
    """All that can be seen of a house, and of what it is at each step back and forth from here."""
    back, forth = [], []

    def there(held):
        while len(held):
            held.undo()
            back.append(look(held))

    def again(held):
        while True:
            try:
                held.redo()
            except NothingToRedo:
                return
            forth.append(look(held))

    house.tried(there)
    house.tried(again)
    return look(house), back, forth


class Plain:
    """The steps of a house, and what the document says of them."""

    def __init__(self, weights=THREE, share=TWO_THIRDS, root="root", steps=()):
        self.weights, self.share, self.root, self.steps = weights, share, root, list(steps)

    def handed(self):
        return {step[1]: step[2] for step in self.steps if step[0] == "block"}

    def parents(self):
        found, handed = {self.root: ""}, self.handed()
        for _ in handed:
            for block, parent in handed.items():
                if parent in found:
                    found[block] = parent
        return found

    def votes(self):
        return sorted({step[1:] for step in self.steps if step[0] == "vote"})

    def waits(self, vote):
        return vote[1] not in self.parents() or vote[2] not in self.parents()

    def case(self):
        parents = self.parents()
        votes = [vote for vote in self.votes() if not self.waits(vote) and model.leads(parents, *vote[1:])]
        weights = {voter: Fraction(weight) for voter, weight in self.weights.items()}
        return model.Case(parents, weights, model.fraction(self.share), votes)

    def error(self, step):
        """The error of a step, None if it can be done."""
        if step[0] == "block":
            if step[1] == step[2]:
                return BadParent
            return InUse if step[1] == self.root or step[1] in self.handed() else None
        if step[1] not in self.weights:
            return NoVoter
        wrong = not self.waits(step[1:]) and not model.leads(self.parents(), *step[2:])
        return BadVote if step[2] == step[3] or wrong else None

    def waiting(self):
        blocks = [block for block in self.handed() if block not in self.parents()]
        return sorted(blocks), len([vote for vote in self.votes() if self.waits(vote)])

    def news(self):
        told = []
        for number in range(1, len(self.steps) + 1):
            case = Plain(self.weights, self.share, self.root, self.steps[:number]).case()
            facts = [("final", block) for block in case.final()] + [("guilty", voter) for voter in case.guilty()]
            for fact in facts + [("justified", block) for block in case.justified()]:
                if fact[1:] != (self.root,) and fact not in [row[1:] for row in told]:
                    told.append((number, *fact))
        return sorted(told)

    def text(self):
        return "\n".join(" ".join(step) for step in self.steps)

    def look(self):
        case = self.case()
        return (case.ballot().tree().text(), case.ballot().votes(), self.waiting(), len(self.steps), self.news(),
                self.text())


def random_steps(random, count):
    """Steps of which many can be done: blocks ahead of their parents, rings, and votes ahead of their blocks."""
    names = ["root", *NAMES]
    parents = {name: random.choice(["root", *NAMES[:at], *NAMES[:at]]) for at, name in enumerate(NAMES)}
    if random.random() < 0.4:
        parents[random.choice(NAMES)] = random.choice(NAMES)
    steps = [("block", name, parents[name]) for name in NAMES]
    heads = random.sample(NAMES, 2)
    for _ in range(count):
        link = random.choice([(parents[name], name) for name in heads + NAMES] + [("root", random.choice(NAMES))])
        link = random.choice([link, link, link, tuple(random.choices(names, k=2))])
        steps.extend(("vote", voter, *link) for voter in THREE if random.random() < 0.7)
    random.shuffle(steps)
    return steps


class Examples(Checks):
    """The examples of the interface."""

    def test_them(self):
        house = House({"ann": 1, "bob": 1, "cy": 1}, Ratio(2, 3), "root")
        self.assertEqual((house.vote("ann", "root", "a"), house.vote("bob", "root", "a"), house.block("b", "a"),
                          house.waiting()), (None, None, None, (["b"], 2)))
        self.assertEqual((house.block("a", "root"), house.waiting(), house.ballot().tree().blocks(), house.news()),
                         (None, ([], 0), ["a", "b", "root"], [(4, "justified", "a")]))
        self.assertEqual((house.take("vote ann a b\nvote bob a b"), house.news(), house.tried(len), house.undo(),
                          len(house)),
                         (None, [(4, "justified", "a"), (6, "final", "a"), (6, "justified", "b")], 6, None, 5))
        self.assert_given(InUse, "a", house.block, "a", "b")

    def test_where_things_stand(self):
        self.assertEqual(House.__module__, house_file.__name__)
        self.assertEqual(House.__module__, "finalblocks.house")
        for name in ["__init__", "block", "vote", "ballot", "waiting", "__len__", "news", "undo", "redo", "tried",
                     "text", "take"]:
            self.assertIn(name, House.__dict__)

    def test_arguments_by_name(self):
        house = House(weights=THREE, share=TWO_THIRDS, root="root")
        house.block(block="a", parent="root")
        house.vote(voter="ann", source="root", target="a")
        house.take(text="block b a")
        self.assertEqual(house.tried(act=lambda held: held.text()), "block a root\nvote ann root a\nblock b a")


class Making(Checks):
    """[43]: the errors in their order."""

    def test_errors(self):
        for key in NO_NAMES + [value for value in FIT_FOR_KEYS if value != "a"]:
            self.assert_given(BadName, key, House, {"ann": 0, key: 1, "B": 1}, 0, "")
        for value in NO_WEIGHTS:
            self.assert_given(BadWeight, value, House, {"ann": 1, "bob": value, "cy": 0}, 0, "")
        for value in NO_SHARES:
            self.assert_given(BadShare, value, House, THREE, value, "")
        for value in NO_BLOCKS:
            self.assert_given(BadName, value, House, THREE, TWO_THIRDS, value)

    def test_a_new_house(self):
        house = House(THREE, 1, "r")
        self.assertEqual(house.ballot(), Ballot(Tree({"r": ""}), THREE, 1))
        self.assertEqual((house.waiting(), len(house), house.news(), house.text()), (([], 0), 0, [], ""))

    def test_the_dict_is_copied(self):
        weights = dict(THREE)
        house = House(weights, 1, "r")
        weights["dot"] = 1
        weights["ann"] = -1
        self.assertEqual(house.ballot(), Ballot(Tree({"r": ""}), THREE, 1))
        self.assert_given(NoVoter, "dot", house.vote, "dot", "r", "a")

    def test_lists_are_new_on_each_call(self):
        house = house_of("block a root", "vote ann root a", "vote bob root a", "block c b")
        kept = look(house)
        house.news().clear()
        house.waiting()[0].clear()
        self.assertEqual(look(house), kept)


class Steps(Checks):
    """[43], [44]: blocks and votes that are handed in."""

    def test_random_steps(self):
        random, found = Random("steps"), {}
        for _ in range(40):
            house, plain = House(THREE, TWO_THIRDS, "root"), Plain()
            for step in random_steps(random, 5):
                expected = plain.error(step)
                found[expected] = found.get(expected, 0) + 1
                if expected is None:
                    self.assertIsNone(hand_in(house, step))
                    plain.steps.append(step)
                else:
                    with self.assertRaises(expected):
                        hand_in(house, step)
                self.assertEqual(look(house), plain.look())
        for error in [None, BadVote, BadParent]:
            self.assertGreater(found[error], 3)

    def test_the_same_steps_in_other_orders(self):
        random, dropped = Random("orders"), 0
        for _ in range(25):
            steps, ballots, waiting = random_steps(random, 4), [], []
            for _ in range(6):
                house = House(THREE, TWO_THIRDS, "root")
                random.shuffle(steps)
                for step in steps:
                    try:
                        hand_in(house, step)
                    except BlockError:
                        dropped += 1
                ballots.append(house.ballot())
                waiting.append(house.waiting())
            self.assertTrue(all(ballot == ballots[0] for ballot in ballots))
            self.assertTrue(all(told == waiting[0] for told in waiting))
        self.assertGreater(dropped, 10)

    def test_chains_and_rings_of_waiting_blocks(self):
        house = house_of("block d c", "block c b", "block e d", "block b a")
        self.assertEqual(house.waiting(), (["b", "c", "d", "e"], 0))
        house.block("a", "root")
        self.assertEqual(house.waiting(), ([], 0))
        self.assertEqual(house.ballot().tree().branch("e"), ["root", "a", "b", "c", "d", "e"])
        house = house_of("block a b", "block b a", "block c b", "block x y", "block y z", "block z x", "vote ann a c")
        self.assertEqual(house.waiting(), (["a", "b", "c", "x", "y", "z"], 1))
        self.assertEqual(house.ballot().tree().blocks(), ["root"])
        house.block("d", "root")
        self.assertEqual(house.ballot().tree().blocks(), ["d", "root"])

    def test_votes_ahead_of_their_blocks(self):
        house = house_of("vote ann a b", "vote ann a b", "vote bob root a", "vote cy b root")
        self.assertEqual(house.waiting(), ([], 3))
        house.block("a", "root")
        self.assertEqual((house.waiting(), house.ballot().votes()), (([], 2), [("bob", "root", "a")]))
        house.block("b", "a")
        # The vote from b to the root turns out to be none.
        self.assertEqual((house.waiting(), house.ballot().votes()),
                         (([], 0), [("ann", "a", "b"), ("bob", "root", "a")]))
        self.assert_given(BadVote, ("cy", "b", "root"), house.vote, "cy", "b", "root")
        self.assertEqual(len(house), 6)

    def test_the_same_vote_again_is_a_step(self):
        house = house_of("block a root", "vote ann root a", "vote ann root a", "vote ann root b", "vote ann root b")
        self.assertEqual((len(house), house.waiting()), (5, ([], 1)))
        self.assertEqual(house.ballot().votes(), [("ann", "root", "a")])
        self.assertEqual(house.text().count("vote ann root a"), 2)

    def test_a_vote_from_a_block_that_waits_to_one_in_the_tree(self):
        house = house_of("block a root", "block c b", "vote ann c a", "vote bob a c", "vote cy gone a")
        self.assertEqual(house.waiting(), (["c"], 3))
        house.block("b", "a")
        self.assertEqual((house.waiting(), house.ballot().votes()), (([], 1), [("bob", "a", "c")]))

    def test_errors_of_a_block(self):
        for lines in [(), ("block a root", "block c b", "vote ann root a")]:
            house = house_of(*lines)
            kept = whole_look(house)
            for value in NO_BLOCKS:
                self.assert_given(BadName, value, house.block, value, value)
                self.assert_given(BadName, value, house.block, value, "root")
                for block in ["x", "root"]:
                    self.assert_given(BadParent, value, house.block, block, value)
            for block in ["x", "root", "a"]:
                self.assert_given(BadParent, block, house.block, block, block)
            for parent in ["a", "b", "x"]:
                self.assert_given(InUse, "root", house.block, "root", parent)
            if lines:
                for block, parent in [("a", "root"), ("a", "c"), ("c", "b"), ("c", "x")]:
                    self.assert_given(InUse, block, house.block, block, parent)
            self.assertEqual(whole_look(house), kept)

    def test_errors_of_a_vote(self):
        house = house_of("block a root", "block b a", "block d root", "block f e", "vote ann root a")
        kept = whole_look(house)
        for value in NO_VOTERS:
            self.assert_given(NoVoter, value, house.vote, value, "root", "a")
            self.assert_given(NoVoter, value, house.vote, value, value, value)
        for value in NO_BLOCKS:
            self.assert_given(BadVote, ("ann", value, "a"), house.vote, "ann", value, "a")
            self.assert_given(BadVote, ("ann", "root", value), house.vote, "ann", "root", value)
            self.assert_given(BadVote, ("ann", value, value), house.vote, "ann", value, value)
        for link in [("a", "a"), ("a", "root"), ("a", "d"), ("b", "a"), ("d", "b"), ("root", "root"), ("gone", "gone"),
                     ("f", "f")]:
            self.assert_given(BadVote, ("bob", *link), house.vote, "bob", *link)
        self.assertEqual(whole_look(house), kept)

    def test_news(self):
        house = house_of("block a root", "block b a", "block c root", "vote ann root a", "vote bob root a",
                         "vote ann a b", "vote bob a b", "vote ann root c", "vote cy root c", "vote bob a b",
                         "block d c", "vote cy root a")
        self.assertEqual(house.news(), [
            (5, "justified", "a"), (7, "final", "a"), (7, "justified", "b"), (8, "guilty", "ann"),
            (9, "justified", "c"), (12, "guilty", "cy")])
        # One block may bring in much at once, in the order of the kinds and the names.
        house = house_of("vote ann root b", "vote bob root b", "vote ann b c", "vote bob b c", "vote ann root d",
                         "block c b", "block d root", "block b a", "vote cy x y", "block a root")
        self.assertEqual(house.news(), [(10, "final", "b"), (10, "justified", "b"), (10, "justified", "c")])
        house = house_of("block a root", "vote ann root a", "vote ann root b", "vote bob root b", "block b root",
                         "vote bob root a")
        self.assertEqual(house.news(), [(5, "guilty", "ann"), (5, "justified", "b"), (6, "guilty", "bob"),
                                        (6, "justified", "a")])

    def test_news_of_a_voter_and_a_block_with_the_name_of_the_root(self):
        house = house_of("block a root", "block b root", "vote root root a", "vote root root b",
                         weights={"root": 1, "a": 1})
        self.assertEqual(house.news(), [(4, "guilty", "root")])


class UndoAndRedo(Checks):
    """[45]: steps that are taken back and done again."""

    def test_to_the_very_beginning_and_the_very_end(self):
        random = Random("undo")
        for _ in range(8):
            house, looks = House(THREE, TWO_THIRDS, "root"), []
            looks.append(look(house))
            for step in random_steps(random, 4):
                try:
                    hand_in(house, step)
                    looks.append(look(house))
                except BlockError:
                    pass
            with self.assertRaises(NothingToRedo):
                house.redo()
            for expected in looks[-2::-1]:
                self.assertIsNone(house.undo())
                self.assertEqual(look(house), expected)
            with self.assertRaises(NothingToUndo):
                house.undo()
            self.assertEqual(look(house), looks[0])
            for expected in looks[1:]:
                self.assertIsNone(house.redo())
                self.assertEqual(look(house), expected)
            with self.assertRaises(NothingToRedo):
                house.redo()

    def test_random_moves(self):
        random = Random("moves")
        for _ in range(12):
            house, done, undone = House(THREE, TWO_THIRDS, "root"), [], []
            for step in random_steps(random, 4):
                try:
                    hand_in(house, step)
                    done, undone = [*done, step], []
                except BlockError:
                    pass
                for _ in range(random.choice([0, 0, 1, 3])):
                    if random.random() < 0.6 and done:
                        house.undo()
                        undone.append(done.pop())
                    elif undone:
                        house.redo()
                        done.append(undone.pop())
                if random.random() < 0.4:
                    self.assertEqual(look(house), Plain(steps=done).look())
            self.assertEqual(look(house), Plain(steps=done).look())
            for step in undone[::-1]:
                house.redo()
            self.assertEqual(house.text(), Plain(steps=done + undone[::-1]).text())

    def test_a_new_step_behind_an_undo(self):
        for act in [lambda house: house.block("z", "a"), lambda house: house.vote("cy", "root", "a"),
                    lambda house: house.take("block z a"), lambda house: house.take("block b a\nvote ann a b")]:
            house = house_of("block a root", "vote ann root a", "block b a")
            house.undo()
            house.undo()
            act(house)
            with self.assertRaises(NothingToRedo):
                house.redo()
            self.assertEqual(house.text().split("\n")[0], "block a root")

    def test_what_fails_or_does_nothing_can_still_be_done_again(self):
        house = house_of("block a root", "vote ann root a")
        house.undo()
        for act in [lambda: house.block("a", "root"), lambda: house.vote("ann", "a", "a"), lambda: house.take("block"),
                    lambda: house.take("block q root\nblock a root")]:
            with self.assertRaises(BlockError):
                act()
        house.take("")
        house.tried(lambda held: held.block("q", "root"))
        house.redo()
        self.assertEqual(house.text(), "block a root\nvote ann root a")

    def test_tried(self):
        house = house_of("block a root", "vote ann root a", "vote bob root a", "block b a", "vote ann a b")
        house.undo()
        house.undo()
        kept = whole_look(house)

        def steps(held):
            self.assertIs(held, house)
            held.block("q", "a")
            held.take("vote cy a q\nvote bob a q")
            held.undo()
            held.vote("ann", "a", "q")
            return held.news(), held.text()

        def back(held):
            held.undo()
            held.undo()
            return len(held)

        def again(held):
            held.redo()
            held.redo()
            return len(held)

        def all_the_way(held):
            while len(held):
                held.undo()
            held.block("new", "root")
            held.tried(steps_in_between)
            return held.text()

        def steps_in_between(held):
            held.block("other", "root")
            held.undo()
            held.undo()

        told = house.tried(steps)
        self.assertEqual(told[0], [(3, "justified", "a"), (6, "final", "a"), (6, "justified", "q")])
        self.assertEqual(told[1].split("\n")[3:], ["block q a", "vote cy a q", "vote ann a q"])
        self.assertEqual(whole_look(house), kept)
        for act, expected in [(back, 1), (again, 5), (all_the_way, "block new root"), (len, 3),
                              (lambda held: held, house), (lambda held: None, None)]:
            self.assertEqual(house.tried(act), expected)
            self.assertEqual(whole_look(house), kept)

    def test_news_after_other_steps_were_tried(self):
        house = house_of("block a root", "block b root", "vote ann root a", "vote cy root b")

        def other(held):
            held.undo()
            held.vote("ann", "root", "b")
            return held.news()

        def fails(held):
            other(held)
            raise RuntimeError("enough")

        for _ in range(2):
            self.assertEqual(house.tried(other), [(4, "guilty", "ann")])
            self.assertEqual(house.news(), [])
            with self.assertRaises(RuntimeError):
                house.tried(fails)
            self.assertEqual(house.news(), [])
        house.vote("ann", "root", "b")
        self.assertEqual(house.news(), [(5, "guilty", "ann"), (5, "justified", "b")])
        self.assertEqual(house.tried(other), [(5, "guilty", "ann"), (5, "justified", "b")])
        self.assertEqual(house.tried(lambda held: [held.undo(), held.undo(), other(held)][2]), [])
        self.assertEqual(house.news(), [(5, "guilty", "ann"), (5, "justified", "b")])

    def test_tried_with_functions_that_raise(self):
        house = house_of("block a root", "vote ann root a", "block b a")
        house.undo()
        kept = whole_look(house)

        def fails(held):
            held.block("x", "root")
            held.undo()
            held.undo()
            held.vote("bob", "root", "a")
            raise RuntimeError("enough")

        def refused(held):
            held.block("x", "root")
            held.block("x", "a")

        def too_far(held):
            while True:
                held.undo()

        for act, error in [(fails, RuntimeError), (refused, InUse), (too_far, NothingToUndo),
                           (lambda held: 1 // 0, ZeroDivisionError)]:
            with self.assertRaises(error):
                house.tried(act)
            self.assertEqual(whole_look(house), kept)
        house.redo()
        self.assertEqual(house.text(), "block a root\nvote ann root a\nblock b a")


class Texts(Checks):
    """[46]: the text of a house."""

    def test_a_text_taken_by_a_new_house(self):
        random = Random("texts")
        for _ in range(15):
            house = House(THREE, TWO_THIRDS, "root")
            for step in random_steps(random, 4):
                try:
                    hand_in(house, step)
                except BlockError:
                    pass
            other = House(THREE, TWO_THIRDS, "root")
            self.assertIsNone(other.take(house.text()))
            self.assertEqual(whole_look(other), whole_look(house))

    def test_the_text(self):
        house = house_of("vote ann root a", "block a root", "block c b", "vote ann root a")
        self.assertEqual(house.text(), "vote ann root a\nblock a root\nblock c b\nvote ann root a")
        house.undo()
        self.assertEqual(house.text(), "vote ann root a\nblock a root\nblock c b")

    def test_the_empty_text(self):
        for house in [house_of(), house_of("block a root")]:
            kept = whole_look(house)
            self.assertIsNone(house.take(""))
            self.assertEqual(whole_look(house), kept)

    def test_each_line_is_a_step(self):
        house = house_of("block a root")
        house.take("vote ann root a\nblock b a\nvote bob a b")
        self.assertEqual(len(house), 4)
        house.undo()
        self.assertEqual(house.text(), "block a root\nvote ann root a\nblock b a")

    def test_lines_that_are_no_step(self):
        wrong = ["", " ", "block", "vote", "block b", "block b a a", "vote ann root", "vote ann root a b", "vote ann a",
                 "block  b a", "block b  a", " block b a", "block b a ", "vote ann  root a", "vote  ann root a",
                 "Block b a", "blocks b a", "Vote ann root a", "votes ann root a", "block ann root a", "vote b a",
                 "step b a", "undo", "redo", "take", "text", "block b a\t", "block\tb\ta",
                 "block b,a", "vote ann root a ", "root", "a root", "ann root a", "vote dot root a", "vote ann a root",
                 "vote ann a a", "vote ann A a", "vote ann root 1", "block B a", "block b A", "block b b",
                 "block a root", "block root a",
                 "block abcdefghi a", "block b ", "vote ann root ", "vote ann root a.", "# block b a", "tried b a",
                 "block \"b\" a", "block b a;", "vote ANN root a", "block b root\r"]
        for line in wrong:
            house = house_of("block a root", "vote bob root a", "block z a")
            house.undo()
            kept = whole_look(house)
            for text, number in [(line, 1), ("block x root\nblock y x\n" + line, 3), (line + "\nblock b a", 1),
                                 ("block x root\n" + line + "\n" + line, 2),
                                 ("vote cy p q\n" + line + "\nblock q p", 2)]:
                if text:
                    with self.assertRaises(BadLine) as caught:
                        house.take(text)
                    self.assertEqual(caught.exception.line, number)
                    self.assertEqual(whole_look(house), kept)

    def test_a_line_that_fails_by_a_line_above_it(self):
        house = house_of()
        kept = whole_look(house)
        for text, number in [("block a root\nblock a root", 2), ("block a root\nblock b root\nvote ann a b", 3),
                             ("block a root\nvote ann root a\nvote ann a root\nblock", 3), ("block a root\n", 2),
                             ("\nblock a root", 1), ("block a root\n\nblock b root", 2), ("\n", 1), ("\n\n", 1)]:
            with self.assertRaises(BadLine) as caught:
                house.take(text)
            self.assertEqual(caught.exception.line, number)
            self.assertEqual(whole_look(house), kept)
        # The same vote waits where its blocks come later, and then is dropped.
        house.take("vote ann a b\nblock a root\nblock b root")
        self.assertEqual((house.ballot().votes(), house.waiting()), ([], ([], 0)))

    def test_the_sizes_of_the_limits(self):
        letters = "abcdefghijklmnopqrstuvw"
        lines = [f"block {block} {parent}" for block, parent in zip(letters[::-1], [*letters[-2::-1], "root"])]
        voters = {"v" + letter: 1 for letter in "abcdefg"}
        lines += [f"vote {voter} {one} {other}" for one, other in zip(letters, letters[1:]) for voter in voters][:120]
        house = House(voters, TWO_THIRDS, "root")
        house.take("\n".join(lines))
        self.assertEqual(len(house.ballot().votes()), 120)
        for voter in voters:
            house.vote(voter, "root", "a")
        self.assertEqual(len(house.news()), 2 * len([row for row in house.news() if row[1] == "justified"]) - 1)
        long = "\n".join(["vote va root a"] * 250)
        house.take(long)
        self.assertEqual(len(house), len(lines) + 7 + 250)


if __name__ == "__main__":
    import unittest
    unittest.main()
