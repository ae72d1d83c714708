import inspect
import unittest
from itertools import permutations, product

from finalblocks import trees
from finalblocks.errors import BadLine, BadName, BadParent, InUse, NoBlock
from finalblocks.trees import Tree
from tests.checks import Checks
from tests.values import ANY_VALUES, FIT_FOR_KEYS, NO_NAMES, same

NAMES = ["a", "z", "root", "abcdefgh", "zzzzzzzz", "aa"]
MANY = {"root": "", "a": "root", "b": "a", "c": "a", "d": "c"}
LONG = {"n" + "abcdefghijklmnopqrstuvw"[at]: "n" + "abcdefghijklmnopqrstuvw"[at - 1] if at else "" for at in range(23)}
WIDE = {"m": "", **{letter: "m" for letter in "qzkabyx"}, "c": "q", "d": "q", "e": "z", "f": "c", "g": "e", "h": "f"}
ALONE = {"root": ""}
SHAPES = [MANY, LONG, WIDE, ALONE]


def branch_of(parents, block):
    """The blocks from the root to a block, from a dict that is that of a tree."""
    return branch_of(parents, parents[block]) + [block] if parents[block] else [block]


def expected_fault(parents):
    """The first key with a wrong parent, word by word as [12] tells; None if there is none."""
    roots = []
    for block, parent in parents.items():
        if parent == "":
            if roots:
                return block
            roots.append(block)
        elif not isinstance(parent, str) or parent not in parents or parent == block:
            return block
        else:
            seen, here = [], block
            while isinstance(here, str) and here in parents and here not in seen and parents[here] != "":
                seen.append(here)
                here = parents[here]
            if not (isinstance(here, str) and here in parents and parents[here] == ""):
                return block
    return None


def expected_text(parents):
    rows = sorted((len(branch_of(parents, block)), block) for block in parents)
    return "\n".join(f"{block} {parents[block]}" if parents[block] else block for _, block in rows)


def small_trees(names):
    """The dicts of all trees whose blocks are just some names."""
    for parents in product([""] + names, repeat=len(names)):
        told = dict(zip(names, parents))
        if expected_fault(told) is None:
            yield told


class Examples(Checks):
    """The examples of the interface."""

    def test_them(self):
        tree = Tree({"root": "", "a": "root", "b": "a", "c": "a", "d": "c"})
        self.assertEqual(
            (tree.root(), tree.height("d"), tree.branch("d"), tree.leads("a", "d"), tree.against("b", "d"),
             tree.meet("b", "d")),
            ("root", 3, ["root", "a", "c", "d"], True, True, "a"))
        self.assertEqual(
            (tree.text(), Tree.read(tree.text()) == tree, tree.with_block("e", "b").tops(), tree.below("a")),
            ("root\na root\nb a\nc a\nd c", True, ["d", "e"], ["b", "c", "d"]))
        self.assert_given(BadParent, "a", Tree, {"root": "", "a": "b", "b": "a"})

    def test_where_things_stand(self):
        self.assertEqual(trees.Tree.__module__, "finalblocks.trees")
        for name in ["__init__", "read", "text", "root", "blocks", "children", "branch", "__len__", "parent", "height",
                     "leads", "against", "meet", "__eq__", "with_block", "below", "tops"]:
            self.assertIn(name, Tree.__dict__)
        self.assertIsInstance(Tree.__dict__["read"], classmethod)

    def test_arguments_by_name(self):
        tree = Tree(parents=MANY)
        self.assertEqual(Tree.read(text="a\nb a"), Tree({"a": "", "b": "a"}))
        self.assertEqual(tree.children(block="a"), ["b", "c"])
        self.assertEqual(tree.branch(block="a"), ["root", "a"])
        self.assertEqual(tree.parent(block="a"), "root")
        self.assertEqual(tree.height(block="a"), 1)
        self.assertEqual(tree.below(block="c"), ["d"])
        self.assertTrue(tree.leads(one="a", other="b"))
        self.assertTrue(tree.against(one="c", other="b"))
        self.assertEqual(tree.meet(one="c", other="b"), "a")
        self.assertEqual(tree.with_block(block="e", parent="b").parent("e"), "b")
        self.assertEqual(list(inspect.signature(Tree).parameters), ["parents"])


class Names(Checks):
    """[2], [12]: which keys are names."""

    def test_names(self):
        for name in NAMES:
            self.assertEqual(Tree({name: ""}).root(), name)

    def test_strings_that_are_no_names(self):
        for name in NO_NAMES:
            self.assert_given(BadName, name, Tree, {name: ""})
            self.assert_given(BadName, name, Tree, {"root": "", name: "root"})

    def test_other_keys(self):
        for key in FIT_FOR_KEYS:
            if key != "a":
                self.assert_given(BadName, key, Tree, {"root": "", key: "root"})

    def test_the_first_wrong_key_counts(self):
        self.assert_given(BadName, "B", Tree, {"root": "", "B": "root", "A": "root", 1: "root"})
        self.assert_given(BadName, 1, Tree, {1: "", "A": "root", "root": "A"})
        self.assert_given(BadName, (), Tree, {"root": "", (): "root", None: ""})

    def test_wrong_names_come_ahead_of_wrong_parents(self):
        self.assert_given(BadName, "A", Tree, {"b": "b", "c": 5, "A": "c"})
        self.assert_given(BadName, 7, Tree, {"r": "", "s": "", "b": "gone", 7: "r"})
        self.assert_given(BadName, "aaaaaaaaa", Tree, {"r": "s", "s": "r", "aaaaaaaaa": ""})


class Parents(Checks):
    """[12]: which parents are wrong."""

    def test_a_parent_of_any_kind(self):
        for value in ANY_VALUES:
            if not same(value, ""):
                self.assert_given(BadParent, "b", Tree, {"root": "", "b": value})
                self.assert_given(BadParent, "b", Tree, {"b": value, "root": ""})

    def test_a_parent_that_is_no_block(self):
        self.assert_given(BadParent, "b", Tree, {"root": "", "b": "c"})
        self.assert_given(BadParent, "b", Tree, {"root": "", "a": "root", "b": "ab", "c": "gone"})

    def test_a_block_that_is_its_own_parent(self):
        self.assert_given(BadParent, "b", Tree, {"root": "", "b": "b"})
        self.assert_given(BadParent, "b", Tree, {"b": "b"})
        self.assert_given(BadParent, "c", Tree, {"root": "", "c": "b", "b": "b"})

    def test_two_roots(self):
        self.assert_given(BadParent, "s", Tree, {"r": "", "s": ""})
        self.assert_given(BadParent, "r", Tree, {"s": "", "r": ""})
        self.assert_given(BadParent, "s", Tree, {"r": "", "a": "r", "s": "", "t": ""})

    def test_blocks_below_a_second_root_come_to_a_root(self):
        self.assert_given(BadParent, "s", Tree, {"a": "s", "r": "", "s": ""})
        self.assert_given(BadParent, "s", Tree, {"r": "", "a": "s", "b": "a", "s": ""})

    def test_no_root(self):
        self.assert_given(BadParent, "a", Tree, {"a": "b", "b": "a"})
        self.assert_given(BadParent, "a", Tree, {"a": "b", "b": "c", "c": "b"})
        self.assert_given(BadParent, "a", Tree, {"a": "b", "b": "gone"})

    def test_rings(self):
        self.assert_given(BadParent, "b", Tree, {"root": "", "b": "c", "c": "d", "d": "b"})
        self.assert_given(BadParent, "d", Tree, {"root": "", "a": "root", "d": "b", "b": "c", "c": "d"})

    def test_blocks_that_hang_below_a_ring(self):
        self.assert_given(BadParent, "x", Tree, {"root": "", "x": "b", "b": "c", "c": "b"})
        self.assert_given(BadParent, "y", Tree, {"y": "x", "root": "", "x": "b", "b": "c", "c": "b"})
        self.assert_given(BadParent, "b", Tree, {"root": "", "b": "c", "c": "b", "x": "b"})

    def test_blocks_that_hang_below_a_wrong_parent(self):
        self.assert_given(BadParent, "x", Tree, {"root": "", "x": "b", "b": 5})
        self.assert_given(BadParent, "x", Tree, {"x": "b", "b": ["root"], "root": ""})
        self.assert_given(BadParent, "b", Tree, {"root": "", "b": "gone", "x": "b"})

    def test_all_small_dicts(self):
        wrong = right = 0
        for names in (["a"], ["a", "b"], ["a", "b", "c"], ["d", "a", "c", "b"]):
            for values in product(["", "gone", *names], repeat=len(names)):
                parents = dict(zip(names, values))
                fault = expected_fault(parents)
                if fault is None:
                    self.assertEqual(Tree(parents).blocks(), sorted(names))
                    right += 1
                else:
                    self.assert_given(BadParent, fault, Tree, parents)
                    wrong += 1
        # A tree of n blocks with a root can be drawn in n ** (n - 1) ways.
        self.assertEqual(right, 1 + 2 + 9 + 64)
        self.assertGreater(wrong, right)

    def test_later_changes_of_the_dict(self):
        parents = dict(MANY)
        tree = Tree(parents)
        parents["e"] = "d"
        parents["b"] = "c"
        del parents["root"]
        self.assertEqual(tree, Tree(MANY))
        self.assertEqual(tree.text(), "root\na root\nb a\nc a\nd c")
        self.assertEqual((tree.blocks(), tree.children("c")), (["a", "b", "c", "d", "root"], ["d"]))

    def test_the_dict_stays_as_it_was(self):
        for parents in [MANY, {"b": "a", "a": ""}]:
            passed = dict(parents)
            Tree(passed)
            self.assertEqual(list(passed.items()), list(parents.items()))


class Looking(Checks):
    """[13]: what a tree tells of its blocks."""

    def shapes(self):
        yield from SHAPES
        yield from small_trees(["b", "d", "a", "c"])

    def test_the_whole_tree(self):
        for parents in self.shapes():
            tree = Tree(parents)
            self.assertEqual([tree.root()], [block for block in parents if parents[block] == ""])
            self.assertEqual(tree.blocks(), sorted(parents))
            self.assertEqual(len(tree), len(parents))

    def test_each_block(self):
        for parents in self.shapes():
            tree = Tree(parents)
            for block in parents:
                self.assertEqual(tree.parent(block), parents[block])
                self.assertEqual(tree.branch(block), branch_of(parents, block))
                self.assertEqual(tree.height(block), len(branch_of(parents, block)) - 1)
                self.assertEqual(tree.children(block), sorted(name for name in parents if parents[name] == block))

    def test_each_two_blocks(self):
        for parents in self.shapes():
            tree = Tree(parents)
            for one, other in product(parents, parents):
                left, right = branch_of(parents, one), branch_of(parents, other)
                self.assertIs(tree.leads(one, other), one in right and one != other)
                self.assertIs(tree.against(one, other), one not in right and other not in left)
                self.assertEqual(tree.meet(one, other), max(set(left) & set(right), key=left.index))

    def test_two_equal_blocks(self):
        for parents in SHAPES:
            for block in parents:
                tree = Tree(parents)
                self.assertIs(tree.leads(block, block), False)
                self.assertIs(tree.against(block, block), False)
                self.assertEqual(tree.meet(block, block), block)

    def test_one_block_alone(self):
        tree = Tree(ALONE)
        self.assertEqual((tree.root(), tree.blocks(), len(tree), tree.parent("root"), tree.height("root"),
                          tree.children("root"), tree.branch("root")), ("root", ["root"], 1, "", 0, [], ["root"]))

    def test_blocks_in_order_of_letters(self):
        parents = {"b": "", "ab": "b", "aa": "b", "a": "b", "abc": "b", "c": "b", "aaa": "b"}
        self.assertEqual(Tree(parents).blocks(), ["a", "aa", "aaa", "ab", "abc", "b", "c"])
        self.assertEqual(Tree(parents).children("b"), ["a", "aa", "aaa", "ab", "abc", "c"])

    def test_a_tree_beyond_the_limits(self):
        names = [first + second for first in "abcdefghij" for second in "klmnopqrstuvwxyz"]
        tree = Tree({name: names[at - 1] if at else "" for at, name in enumerate(names)})
        self.assertEqual((tree.height(names[-1]), tree.branch(names[-1]), len(tree)), (159, names, 160))
        self.assertEqual(tree.meet(names[90], names[150]), names[90])
        self.assertEqual(Tree.read(tree.text()), tree)

    def test_no_block(self):
        tree = Tree(MANY)
        wrong = [value for value in ANY_VALUES + NO_NAMES + ["e", "roo", "roots"] if not same(value, "a")]
        for value in wrong:
            for method in [tree.parent, tree.height, tree.children, tree.branch]:
                self.assert_given(NoBlock, value, method, value)

    def test_no_block_of_two(self):
        tree = Tree(MANY)
        wrong = [value for value in ANY_VALUES + ["e", "A"] if not same(value, "a")]
        for method in [tree.leads, tree.against, tree.meet]:
            for value in wrong:
                for block in MANY:
                    self.assert_given(NoBlock, value, method, value, block)
                    self.assert_given(NoBlock, value, method, block, value)
                self.assert_given(NoBlock, value, method, value, value)
                self.assert_given(NoBlock, value, method, value, "gone")
                self.assert_given(NoBlock, "gone", method, "gone", value)

    def test_lists_are_new_on_each_call(self):
        tree = Tree(MANY)
        for call in [tree.blocks, tree.tops, lambda: tree.children("a"), lambda: tree.branch("d"),
                     lambda: tree.below("a"), lambda: tree.children("d"), lambda: tree.branch("root")]:
            told = call()
            kept = list(told)
            told.append("more")
            told[0] = "other"
            self.assertEqual(call(), kept)
            self.assertIsNot(call(), call())
        self.assertEqual(tree, Tree(MANY))
        self.assertEqual(tree.text(), "root\na root\nb a\nc a\nd c")


class Equality(unittest.TestCase):
    """[13]: when trees are equal."""

    def test_keys_in_another_order(self):
        for order in permutations(MANY):
            tree = Tree({block: MANY[block] for block in order})
            self.assertTrue(tree == Tree(MANY))
            self.assertFalse(tree != Tree(MANY))
            self.assertEqual(tree.text(), Tree(MANY).text())

    def test_small_trees_are_equal_only_to_themselves(self):
        told = list(small_trees(["a", "b", "c"])) + list(small_trees(["a", "b"])) + list(small_trees(["a", "b", "d"]))
        for one, other in product(told, told):
            self.assertIs(Tree(one) == Tree(other), one == other)

    def test_values_that_are_no_trees(self):
        for value in [*ANY_VALUES, MANY, Tree(MANY).text(), Tree(MANY).blocks(), len(MANY), object()]:
            self.assertIs(Tree(MANY) == value, False)
            self.assertIs(value == Tree(MANY), False)
            self.assertIs(Tree(MANY) != value, True)


class Growing(Checks):
    """[14]: trees with one more block, and what lies below and at the top."""

    def test_one_more_block(self):
        for parents in SHAPES:
            for parent in parents:
                self.assertEqual(Tree(parents).with_block("new", parent), Tree({**parents, "new": parent}))

    def test_the_old_tree_stays_as_it_was(self):
        for parents in SHAPES:
            old = Tree(parents)
            kept = (old.text(), old.tops(), len(old))
            new = old.with_block("new", old.tops()[0])
            self.assertEqual((old.text(), old.tops(), len(old)), kept)
            self.assertEqual(old, Tree(parents))
            self.assertEqual(old.children(old.tops()[0]), [])
            self.assertNotEqual(old, new)
            self.assertEqual(len(new), len(old) + 1)

    def test_a_new_block_is_no_name(self):
        tree = Tree(MANY)
        for value in [value for value in ANY_VALUES + NO_NAMES if not same(value, "a")]:
            for parent in ["a", "gone", 5, value]:
                self.assert_given(BadName, value, tree.with_block, value, parent)

    def test_a_new_block_is_there_already(self):
        tree = Tree(MANY)
        for block in MANY:
            for parent in ["a", "gone", "", None, [], block, MANY[block]]:
                self.assert_given(InUse, block, tree.with_block, block, parent)

    def test_the_parent_of_a_new_block_is_no_block(self):
        tree = Tree(MANY)
        for value in [value for value in ANY_VALUES + NO_NAMES + ["gone", "new"] if not same(value, "a")]:
            self.assert_given(NoBlock, value, tree.with_block, "new", value)
        self.assertEqual(tree, Tree(MANY))

    def test_below(self):
        for parents in [*SHAPES, *small_trees(["b", "d", "a", "c"])]:
            for block in parents:
                expected = sorted(name for name in parents if name != block and block in branch_of(parents, name))
                self.assertEqual(Tree(parents).below(block), expected)

    def test_below_no_block(self):
        for value in [value for value in ANY_VALUES + ["gone"] if not same(value, "a")]:
            self.assert_given(NoBlock, value, Tree(MANY).below, value)

    def test_tops(self):
        for parents in [*SHAPES, *small_trees(["b", "d", "a", "c"])]:
            self.assertEqual(Tree(parents).tops(), sorted(name for name in parents if name not in parents.values()))


class Texts(unittest.TestCase):
    """[15]: texts of trees."""

    def assert_bad_line(self, number, text):
        with self.assertRaises(BadLine) as caught:
            Tree.read(text)
        self.assertTrue(same(caught.exception.line, number), (text, caught.exception.line, number))

    def test_texts(self):
        for parents in [*SHAPES, *small_trees(["b", "d", "a", "c"])]:
            self.assertEqual(Tree(parents).text(), expected_text(parents))

    def test_texts_read_back(self):
        for parents in [*SHAPES, *small_trees(["b", "d", "a", "c"])]:
            tree = Tree(parents)
            self.assertEqual(Tree.read(tree.text()), tree)
            self.assertEqual(Tree.read(tree.text()).text(), tree.text())

    def test_a_text_by_heights_ahead_of_names(self):
        self.assertEqual(Tree({"z": "", "a": "b", "b": "z", "c": "z"}).text(), "z\nb z\nc z\na b")
        self.assertEqual(Tree.read("z\nb z\nc z\na b"), Tree({"z": "", "a": "b", "b": "z", "c": "z"}))
        # By names alone across parents, not parent after parent.
        self.assertEqual(Tree({"r": "", "a": "r", "b": "r", "d": "a", "c": "b"}).text(), "r\na r\nb r\nc b\nd a")

    def test_the_empty_text(self):
        self.assert_bad_line(1, "")

    def test_first_lines(self):
        for line in ["", " ", "A", "abcdefghi", "a b", "a a", "a ", " a", "a  ", "1", "a\t", "a\r", "a b c", "\u00e9"]:
            self.assert_bad_line(1, line)
            self.assert_bad_line(1, line + "\nb a")

    def test_second_lines(self):
        for line in ["", " ", "b", "a", "b b", "a a", "b c", "b  a", "b a ", " b a", "b a a", "B a", "b A", "b\ta",
                     "b\u00a0a", "abcdefghi a", "b abcdefghi", "1 a", "b 1", "b ", " a", "b a\r"]:
            self.assert_bad_line(2, "a\n" + line)
            self.assert_bad_line(2, f"a\n{line}\nc a")

    def test_a_trailing_line_feed(self):
        self.assert_bad_line(2, "root\n")
        self.assert_bad_line(6, Tree(MANY).text() + "\n")
        self.assert_bad_line(1, "\nroot")
        self.assert_bad_line(2, "root\n\na root")

    def test_other_line_breaks_do_not_count(self):
        for sign in ["\r", "\r\n", "\x0b", "\x0c", "\x1c", "\u2028", "\x85"]:
            self.assert_bad_line(1, f"root{sign}a root")

    def test_a_parent_that_comes_later_or_never(self):
        self.assert_bad_line(2, "r\nb a\na r")
        self.assert_bad_line(2, "r\na b\nb r")
        self.assert_bad_line(3, "r\na r\nb x\nc r")
        self.assert_bad_line(2, "r\na b\nb a")

    def test_a_wrong_order_by_height(self):
        self.assert_bad_line(4, "r\na r\nb a\nc r")
        self.assert_bad_line(5, "r\na r\nb a\nc b\nd a")
        self.assert_bad_line(5, "r\na r\nb a\nc b\nd r\ne d")

    def test_a_wrong_order_by_name(self):
        self.assert_bad_line(3, "r\nb r\na r")
        self.assert_bad_line(3, "r\nab r\na r")
        self.assert_bad_line(5, "r\na r\nb r\nd a\nc b")

    def test_a_name_for_the_second_time(self):
        self.assert_bad_line(3, "r\na r\na r")
        self.assert_bad_line(3, "r\na r\nr a")
        self.assert_bad_line(4, "r\na r\nb r\na b")
        self.assert_bad_line(2, "r\nr")
        self.assert_bad_line(2, "r\nr r")

    def test_two_roots(self):
        self.assert_bad_line(2, "r\ns")
        self.assert_bad_line(3, "r\na r\ns")

    def test_the_first_of_several_lines_counts(self):
        self.assert_bad_line(2, "r\nA r\na x\n\n")
        self.assert_bad_line(1, " \n \n ")

    def test_a_line_that_could_stand_with_others_after_it(self):
        self.assert_bad_line(4, "r\nb r\nc b\nx gone")

    def test_texts_of_4000_characters(self):
        self.assert_bad_line(1, "\n" * 4000)
        self.assert_bad_line(1, "a" * 4000)
        self.assert_bad_line(2, "a\n" + "b a " * 1000)
        self.assert_bad_line(3, "a\n" + "b a\n" * 1000)

    def test_exchanged_doubled_and_left_out_lines(self):
        """Each text near that of a tree is read, or told by its first wrong line."""
        for parents in [MANY, WIDE, *small_trees(["b", "d", "a", "c"])]:
            lines = Tree(parents).text().split("\n")
            near = [lines[:at] + lines[at + 1:] for at in range(len(lines)) if len(lines) > 1]
            near += [lines[:at] + [lines[at]] + lines[at:] for at in range(len(lines))]
            near += [lines[:at] + lines[at:at + 2][::-1] + lines[at + 2:] for at in range(len(lines) - 1)]
            near += [[lines[-1], *lines[1:-1], lines[0]]]
            for rows in near:
                self.assert_as_told(rows)

    def test_all_small_texts(self):
        """A line can stand after others just if all of them together are the text of some tree."""
        rows = ["a", "b", "c", "a b", "a c", "b a", "b c", "c a", "c b", "a a", "", "a b c", " b"]
        for length in range(1, 5):
            for lines in product(rows, repeat=length):
                self.assert_as_told(list(lines))

    def assert_as_told(self, lines):
        bad = [number for number in range(1, len(lines) + 1) if not self.is_a_text(lines[:number])]
        if bad:
            self.assert_bad_line(bad[0], "\n".join(lines))
        else:
            self.assertEqual(Tree.read("\n".join(lines)).text(), "\n".join(lines))

    def is_a_text(self, lines):
        words = [line.split(" ") for line in lines]
        if len(words[0]) != 1 or any(len(row) != 2 for row in words[1:]) or "" in sum(words, []):
            return False
        parents = {words[0][0]: "", **dict(row for row in words[1:])}
        if len(parents) != len(lines) or parents[words[0][0]] != "" or expected_fault(parents) is not None:
            return False
        return "\n".join(lines) == expected_text(parents)


if __name__ == "__main__":
    unittest.main()
