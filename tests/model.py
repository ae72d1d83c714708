"""A second account of the points [2] to [5], over plain dicts and Fractions, to hold the package against."""

from fractions import Fraction
from itertools import combinations, product
from random import Random

from finalblocks.ballots import Ballot
from finalblocks.ratios import Ratio
from finalblocks.trees import Tree

TINY = Fraction(1, 10 ** 59)
SHARES = [Fraction(1, 2) + TINY, Fraction(3, 5), Fraction(2, 3), Fraction(3, 4), 1 - TINY, Fraction(1)]


def number(fraction):
    """A Fraction as callers pass it: an integer or a Ratio."""
    fraction = Fraction(fraction)
    return fraction.numerator if fraction.denominator == 1 else Ratio(fraction.numerator, fraction.denominator)


def fraction(ratio):
    return Fraction(ratio.top, ratio.bottom)


def branch(parents, block):
    return branch(parents, parents[block]) + [block] if parents[block] else [block]


def height(parents, block):
    return len(branch(parents, block)) - 1


def leads(parents, one, other):
    return one != other and one in branch(parents, other)


def against(parents, one, other):
    return one != other and not leads(parents, one, other) and not leads(parents, other, one)


def all_links(parents):
    return [link for link in product(parents, parents) if leads(parents, *link)]


def breaks(parents, one, other):
    """The rule that two links break as votes of one voter."""
    low, high = height(parents, one[0]), height(parents, one[1])
    other_low, other_high = height(parents, other[0]), height(parents, other[1])
    if one == other:
        return "none"
    if high == other_high:
        return "twice"
    return "around" if (low - other_low) * (high - other_high) < 0 else "none"


class Case:
    """The plain parts of a ballot, and what the document says of them."""

    def __init__(self, parents, weights, share, votes):
        self.parents, self.weights, self.share, self.votes = parents, weights, Fraction(share), list(votes)
        self.root = [block for block in parents if parents[block] == ""][0]

    def ballot(self):
        weights = {voter: number(weight) for voter, weight in self.weights.items()}
        return Ballot(Tree(self.parents), weights, number(self.share), self.votes)

    def whole(self):
        return sum(self.weights.values(), Fraction(0))

    def weight_of(self, voters):
        return sum([self.weights[voter] for voter in set(voters)], Fraction(0))

    def support(self, link):
        return self.weight_of([vote[0] for vote in self.votes if vote[1:] == link])

    def supported(self):
        return [link for link in all_links(self.parents) if self.support(link) >= self.share * self.whole()]

    def justified(self):
        found, supported = {self.root}, self.supported()
        for _ in self.parents:
            found |= {target for source, target in supported if source in found}
        return sorted(found)

    def final(self):
        supported = self.supported()
        shown = {source for source, target in supported if self.parents[target] == source}
        return [block for block in self.justified() if block == self.root or block in shown]

    def clashes(self):
        return [pair for pair in combinations(self.final(), 2) if against(self.parents, *pair)]

    def pairs(self, voter):
        """The pairs of different votes of a voter that break a rule, each both ways round."""
        votes = sorted({vote for vote in self.votes if vote[0] == voter})
        return [(one, other) for one, other in product(votes, votes)
                if breaks(self.parents, one[1:], other[1:]) != "none"]

    def guilty(self):
        return sorted(voter for voter in self.weights if self.pairs(voter))

    def crossings(self):
        return [pair for pair in product(self.supported(), repeat=2) if breaks(self.parents, *pair) != "none"]

    def least_blame(self):
        return (2 * self.share - 1) * self.whole()


def random_parents(random, size):
    names = random.sample(["a", "b", "ab", "aa", "abc", "ba", "z", "zz", "m", "root", "abcdefgh", "q"], size)
    return {name: random.choice(names[:at]) if at else "" for at, name in enumerate(names)}


def random_votes(random, parents, voters, most):
    """Votes of which many are for the same links, so that links are supported."""
    links, votes = all_links(parents), []
    steps = [link for link in links if parents[link[1]] == link[0]]
    for _ in range(random.randrange(most // 2, most + 1) if links else 0):
        link = random.choice(random.choice([links, steps]))
        likely = random.choice([0.4, 0.8, 0.9, 1])
        votes += [(voter, *link) for voter in voters if random.random() < likely]
    random.shuffle(votes)
    return votes


def cases(count, seed):
    """Some cases, the same ones on each run."""
    random = Random(seed)
    for _ in range(count):
        parents = random_parents(random, random.randrange(1, 8))
        voters = random.sample(["ann", "bob", "an", "c", "dd"], random.randrange(1, 6))
        weights = {voter: Fraction(random.randrange(1, 5), random.choice([1, 1, 2, 3])) for voter in voters}
        votes = random_votes(random, parents, voters, random.choice([2, 8, 20, 30]))
        yield Case(parents, weights, random.choice(SHARES), votes)


def chain_to(random, parents, block):
    """Links one after the other from the root to a block, and from there to one of its children."""
    stops = [stop for stop in branch(parents, block)[1:-1] if random.random() < 0.5]
    places = [branch(parents, block)[0], *stops, block]
    child = random.choice([other for other in parents if parents[other] == block])
    return [*zip(places, places[1:]), (block, child)]


def just_enough(random, case):
    """Voters in a random order, as many as are needed to support a link."""
    order, chosen = random.sample(list(case.weights), len(case.weights)), []
    while case.weight_of(chosen) < case.share * case.whole():
        chosen.append(order.pop())
    return chosen


def clashing_cases(count, seed):
    """Cases with two final blocks against one another, with few votes beyond what this takes; the same on each run."""
    random = Random(seed)
    while count:
        case = next(cases(1, random.random()))
        case.parents = random_parents(random, random.randrange(5, 10))
        case.root = [block for block in case.parents if case.parents[block] == ""][0]
        inner = sorted(set(case.parents.values()) - {"", case.root})
        pairs = [pair for pair in combinations(inner, 2) if against(case.parents, *pair)]
        if pairs:
            links = sum([chain_to(random, case.parents, block) for block in random.choice(pairs)], [])
            links += random.sample(all_links(case.parents), random.choice([0, 0, 1]))
            case.votes = [(voter, *link) for link in links for voter in just_enough(random, case)]
            count -= 1
            yield case


def further_votes(case, count):
    """Some votes in a case's tree, the same ones for the same case."""
    random = Random(repr((case.parents, case.votes)))
    links = all_links(case.parents)
    return [(random.choice(list(case.weights)), *random.choice(links)) for _ in range(count if links else 0)]
