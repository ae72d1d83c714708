"""What the document promises over the whole program."""

import inspect
import unittest
from importlib import import_module
from random import Random

from finalblocks.ballots import guilty
from finalblocks.standing import final, justified
from finalblocks.worth import after
from tests import force, model

# The interface: each file with its functions, and its classes with their methods, all with their parameters.
INTERFACE = {
    "ratios": {
        "Ratio": "top bottom", "Ratio.read": "text", "Ratio.over": "number", "Ratio.text": "", "as_ratio": "given",
        "lesser": "one other", "greater": "one other", "total": "numbers", "raised": "number exponent"},
    "trees": {
        "Tree": "parents", "Tree.read": "text", "Tree.text": "", "Tree.root": "", "Tree.blocks": "",
        "Tree.children": "block", "Tree.branch": "block", "Tree.parent": "block", "Tree.height": "block",
        "Tree.leads": "one other", "Tree.against": "one other", "Tree.meet": "one other",
        "Tree.with_block": "block parent", "Tree.below": "block", "Tree.tops": ""},
    "ballots": {
        "Ballot": "tree weights share votes", "Ballot.tree": "", "Ballot.share": "", "Ballot.weight": "voter",
        "Ballot.whole": "", "Ballot.weight_of": "voters", "Ballot.voters": "", "Ballot.votes": "",
        "Ballot.votes_of": "voter", "Ballot.with_vote": "voter source target", "Ballot.with_block": "block parent",
        "broken": "tree one other", "evidence": "ballot voter", "guilty": "ballot",
        "can_vote": "ballot voter source target"},
    "standing": {
        "support": "ballot source target", "is_supported": "ballot source target", "links": "ballot",
        "justified": "ballot", "final": "ballot", "highest": "ballot", "paper": "ballot block",
        "is_paper": "ballot block links", "final_paper": "ballot block", "is_final_paper": "ballot block value"},
    "blame": {
        "clashes": "ballot", "crossing": "ballot one other", "is_crossing": "ballot value", "blame": "ballot one other",
        "is_blame": "ballot value"},
    "worth": {
        "is_plan": "ballot value", "after": "ballot plan", "attack_by": "ballot block voters",
        "is_attack": "ballot block voters value", "wall": "ballot block voters",
        "wall_holds": "ballot block voters value", "worth": "ballot block", "least_attack": "ballot block"},
    "goingon": {
        "going_on": "ballot voters", "is_going_on": "ballot voters value", "bar": "ballot voters",
        "is_bar": "ballot voters value"},
    "views": {
        "is_view": "view ballot", "together": "one other", "common": "one other", "parted": "one other",
        "missing": "view ballot", "view_with": "view ballot votes", "needed": "view ballot block"},
    "heads": {
        "Choices": "tree weights chosen", "Choices.load": "block", "Choices.chosen": "", "Choices.way": "start",
        "Choices.head": "start", "Choices.moved": "voter block", "turners": "choices start block",
        "turning": "choices start block", "newcomers": "choices start block", "stays": "choices start block weight"},
    "leaks": {
        "leaked": "weight rate rounds", "enough": "here away share", "rounds_until": "here away rate share",
        "both_final": "one other both none rate share", "least_here": "whole rate share rounds",
        "holds_out": "whole rate share rounds here"},
    "leavers": {
        "worth_without": "ballot block left", "queue_rounds": "ballot queue rate",
        "left_by": "ballot queue rate rounds", "first_cheap": "ballot block queue rate least",
        "worst_without": "ballot block weight", "worth_steps": "ballot block",
        "first_unsafe": "ballot block rate least"},
    "house": {
        "House": "weights share root", "House.block": "block parent", "House.vote": "voter source target",
        "House.ballot": "", "House.waiting": "", "House.news": "", "House.undo": "", "House.redo": "",
        "House.tried": "act", "House.text": "", "House.take": "text"},
}


def listed(function):
    """The parameters of a function or a method, without that for its own object."""
    names = list(inspect.signature(function).parameters)
    return [name for name in names if name != "self"]


class Interface(unittest.TestCase):
    def test_each_name_stands_in_its_file_with_its_parameters(self):
        for file, names in INTERFACE.items():
            module = import_module(f"finalblocks.{file}")
            for name, parameters in names.items():
                told = module
                for part in name.split("."):
                    # A method stands in the class itself, not in a base class.
                    self.assertIn(part, vars(told), (file, name))
                    told = getattr(told, part)
                self.assertEqual(told.__module__, f"finalblocks.{file}", name)
                self.assertEqual(listed(told), parameters.split(), (file, name))

    def test_lengths(self):
        for file, name in [("trees", "Tree"), ("house", "House")]:
            self.assertIn("__len__", vars(getattr(import_module(f"finalblocks.{file}"), name)))


class MainStatements(unittest.TestCase):
    """[5]: what is justified, final or guilty stays so after any plan."""

    def test_plans_take_nothing_away(self):
        random = Random("plans")
        for case in [*force.final_cases(25, "whole"), *model.clashing_cases(10, "whole"), *model.cases(25, "whole")]:
            ballot = case.ballot()
            for at in range(4):
                new = "new" + "abcd"[at]
                blocks = [(new, random.choice(ballot.tree().blocks()))]
                later = force.after(force.case_of(ballot), (blocks, []))
                votes = [(random.choice(list(case.weights)), *random.choice(model.all_links(later.parents)))
                         for _ in range(3)]
                more = after(ballot, (blocks, votes))
                for told in [justified, final, guilty]:
                    self.assertLessEqual(set(told(ballot)), set(told(more)))
                ballot = more


if __name__ == "__main__":
    unittest.main()
