"""Attacks, walls, ways to go on and bars, worked out by force over plain dicts and Fractions, to hold the package to.

What can be done is looked for in a tree that really has new blocks, in place of the document's new places.
"""

from itertools import combinations, product
from random import Random

from tests import model
from tests.model import Case, against, breaks, branch, height, leads


def case_of(ballot):
    """The plain parts of a ballot."""
    tree = ballot.tree()
    weights = {voter: model.fraction(ballot.weight(voter)) for voter in ballot.voters()}
    parents = {block: tree.parent(block) for block in tree.blocks()}
    return Case(parents, weights, model.fraction(ballot.share()), ballot.votes())


def lots(voters):
    """All lists of different ones of some voters, in one order each."""
    return [list(lot) for count in range(len(voters) + 1) for lot in combinations(voters, count)]


def just(one, other):
    """Whether two values are equal and of one kind, all through."""
    if isinstance(one, (list, tuple)) and one.__class__ is other.__class__:
        return len(one) == len(other) and all(just(*pair) for pair in zip(one, other))
    return one.__class__ is other.__class__ and one == other


def is_name(value):
    return isinstance(value, str) and 1 <= len(value) <= 8 and all("a" <= sign <= "z" for sign in value)


def after(case, value):
    """The case with the blocks and votes of a plan as [24] tells it, None for a value that is none."""
    if not isinstance(value, tuple) or len(value) != 2 or not all(isinstance(part, (list, tuple)) for part in value):
        return None
    parents = dict(case.parents)
    for row in value[0]:
        if not isinstance(row, tuple) or len(row) != 2 or not is_name(row[0]) or row[0] in parents:
            return None
        if not isinstance(row[1], str) or row[1] not in parents:
            return None
        parents[row[0]] = row[1]
    votes = list(case.votes)
    for vote in value[1]:
        if not isinstance(vote, tuple) or len(vote) != 3 or not all(isinstance(part, str) for part in vote):
            return None
        if vote[0] not in case.weights or vote[1] not in parents or vote[2] not in parents:
            return None
        if not leads(parents, vote[1], vote[2]):
            return None
        votes.append(vote)
    return Case(parents, case.weights, case.share, votes)


def is_attack(case, block, voters, value):
    """Whether a value is an attack, as [25] tells it."""
    later = after(case, value)
    if later is None or not any(against(later.parents, block, other) for other in later.final()):
        return False
    return set(later.guilty()) <= {*voters, *case.guilty()}


def is_going_on(case, voters, value):
    """Whether voters go on by a value, as [28] tells it."""
    later = after(case, value)
    if later is None or not {vote[0] for vote in value[1]} <= set(voters):
        return False
    return bool(set(later.final()) - set(case.final())) and not set(later.guilty()) & set(voters)


def grown(case):
    """The tree with a branch of new blocks below each block, one block higher than the document's new places."""
    parents = dict(case.parents)
    names = ("x" + one + other for one, other in product("abcdefghijklmnopqrstuvwxyz", repeat=2))
    most = max(height(parents, block) for block in parents) + 3
    for block in case.parents:
        here = block
        for _ in range(height(parents, block), most):
            new = next(name for name in names if name not in parents)
            parents[new] = here
            here = new
    return parents


def way(case, liars, keepers, wanted):
    """A grown tree, and in it links that can be supported, from the root to a wanted block and its child; or None."""
    parents = grown(case)
    heights = {block: height(parents, block) for block in parents}
    branches = {block: branch(parents, block) for block in parents}
    kept = {voter: [vote[1:] for vote in case.votes if vote[0] == voter] for voter in case.weights}

    def breaks_none(voter, link):
        for other in kept[voter]:
            if other != link:
                low, high = heights[link[0]] - heights[other[0]], heights[link[1]] - heights[other[1]]
                if high == 0 or low * high < 0:
                    return False
        return True

    def supported(link):
        voters = {*liars, *(voter for voter in kept if link in kept[voter])}
        voters |= {voter for voter in keepers if breaks_none(voter, link)}
        return case.weight_of(voters) >= case.share * case.whole()

    links = {case.root: []}
    for block in sorted(parents, key=lambda name: heights[name]):
        for source in branches[block][:-1]:
            if source in links and block not in links and supported((source, block)):
                links[block] = [*links[source], (source, block)]
    for block in sorted(links, key=lambda name: len(links[name])):
        if wanted(parents, block):
            for child in (name for name in parents if parents[name] == block):
                if supported((block, child)):
                    return parents, [*links[block], (block, child)]
    return None


def plan_of(case, found, liars, keepers):
    """A plan for links in a grown tree: liars vote for all of them, keepers for those by which they break no rule."""
    parents, links = found
    last = links[-1][1]
    blocks = [(block, parents[block]) for block in branch(parents, last) if block not in case.parents]
    votes = [(voter, *link) for link in links for voter in case.weights if voter in liars
             or voter in keepers and all(breaks(parents, link, vote[1:]) == "none"
                                         for vote in case.votes if vote[0] == voter)]
    return blocks, votes


def attack(case, block, voters):
    """An attack worked out by force, None if there is none."""
    liars = {*voters, *case.guilty()}
    found = way(case, liars, case.weights, lambda parents, other: against(parents, block, other))
    return None if found is None else plan_of(case, found, liars, case.weights)


def next_step(case, voters):
    """A plan by which voters go on, worked out by force, None if there is none."""
    known = case.final()
    found = way(case, [], voters, lambda parents, other: other not in known)
    return None if found is None else plan_of(case, found, [], voters)


def worth(case, block, left=()):
    """The least weight of an attack without those who have left, among all lots of voters; None if none will do."""
    weights = [case.weight_of({*lot, *case.guilty()} - set(left)) for lot in lots(list(case.weights))
               if attack(case, block, lot)]
    return min(weights, default=None)


class Closed:
    """Walls and bars, as [26] and [29] tell them."""

    def __init__(self, case, blocks, new, always, keepers, wanted):
        self.case, self.always, self.keepers, self.wanted = case, always, keepers, wanted
        most = max(height(case.parents, block) for block in case.parents)
        self.places = [*blocks, *(range(1, most + 3) if new else [])]

    def height(self, place):
        return height(self.case.parents, place) if isinstance(place, str) else place

    def steps(self):
        """The steps that can be made."""
        for low, high in product(self.places, self.places):
            if self.height(low) < self.height(high) and (not isinstance(high, str) or isinstance(low, str)):
                if isinstance(high, int) or leads(self.case.parents, low, high):
                    voters = {*self.always, *(vote[0] for vote in self.case.votes if vote[1:] == (low, high))}
                    voters |= {voter for voter in self.keepers if self.may(voter, low, high)}
                    if self.case.weight_of(voters) >= self.case.share * self.case.whole():
                        yield low, high

    def may(self, voter, low, high):
        """Whether no vote of a voter breaks a rule together with a vote from the one to the other place."""
        parents = self.case.parents
        for vote in self.case.votes:
            if vote[0] == voter and vote[1:] != (low, high):
                other_low, other_high = height(parents, vote[1]), height(parents, vote[2])
                if self.height(high) == other_high:
                    return False
                if (self.height(low) - other_low) * (self.height(high) - other_high) < 0:
                    return False
        return True

    def holds(self, value):
        if not isinstance(value, tuple) or len(value) != 2:
            return False
        if not all(isinstance(part, (list, tuple)) for part in value):
            return False
        for part, kind in zip(value, [str, int]):
            if not all(any(item.__class__ is kind and just(item, place) for place in self.places) for item in part):
                return False
        inside = [*value[0], *value[1]]
        if self.case.root not in inside:
            return False
        for low, high in self.steps():
            if low in inside and high not in inside:
                return False
            ends = isinstance(low, int) or self.wanted(low)
            if low in inside and ends and self.height(high) == self.height(low) + 1:
                return False
        return True


def walls(case, block, voters):
    parents = case.parents
    blocks = [other for other in parents if leads(parents, other, block) or against(parents, other, block)]
    root = block == case.root
    return Closed(case, [block] if root else blocks, not root, {*voters, *case.guilty()}, case.weights,
                  lambda other: against(parents, other, block))


def bars(case, voters):
    known = case.final()
    return Closed(case, case.parents, True, [], voters, lambda other: other not in known)


def near_places(closed, value):
    """Values of many kinds near a wall or a bar, and some that are far from one."""
    blocks, heights = [list(part) for part in value]
    yield from [(tuple(blocks), heights), (blocks, tuple(heights)), (blocks[::-1], heights[::-1])]
    yield from [(blocks + blocks, heights + heights), [blocks, heights], (blocks,), (blocks, heights, []), blocks]
    yield from [(heights, blocks), ([], heights), (blocks, []), (blocks[1:], heights), (blocks, heights[1:])]
    yield from [([*blocks, *heights], []), ([], [*blocks, *heights]), (None, heights), (blocks, None), {}, None, ""]
    yield from [([[block] for block in blocks], heights), (blocks, [str(each) for each in heights]), ("", heights)]
    yield from [(blocks, dict.fromkeys(heights, True)), (dict.fromkeys(blocks, True), heights), ([], []), ((), ())]
    for place in closed.places:
        if isinstance(place, str):
            yield ([*blocks, place], heights)
            yield ([block for block in blocks if block != place], heights)
        else:
            yield (blocks, [*heights, place])
            yield (blocks, [each for each in heights if each != place])
    most = max([each for each in closed.places if isinstance(each, int)], default=0)
    for wrong in [0, -1, most + 1, True, False, model.number(1), model.Ratio(1), model.Ratio(most or 1), "1", None, []]:
        yield (blocks, [*heights, wrong])
        yield ([*blocks, wrong], heights)
    yield ([block for block in closed.places if isinstance(block, str)],
           [each for each in closed.places if isinstance(each, int)])


def final_cases(count, seed, sizes=(3, 7), voters=(1, 5)):
    """Cases with a final block that is not the root, with few votes beyond what this takes; the same on each run."""
    random = Random(seed)
    while count:
        parents = model.random_parents(random, random.randrange(*sizes))
        root = [block for block in parents if parents[block] == ""][0]
        inner = sorted(set(parents.values()) - {"", root})
        names = random.sample(["ann", "bob", "an", "c", "dd"], random.randrange(*voters))
        weights = {name: model.Fraction(random.randrange(1, 5), random.choice([1, 1, 2, 3])) for name in names}
        case = Case(parents, weights, random.choice(model.SHARES), [])
        if inner:
            links = model.chain_to(random, parents, random.choice(inner))
            same = model.just_enough(random, case)
            once = random.random() < 0.5
            case.votes = [(voter, *link) for link in links
                          for voter in (same if once else model.just_enough(random, case))]
            links = model.all_links(parents)
            case.votes += [(random.choice(names), *random.choice(links)) for _ in range(random.choice([0, 0, 1, 2, 4]))]
            count -= 1
            yield case


def near_plans(random, case, plan):
    """Values near a plan: with something left out, added, changed or put otherwise."""
    blocks, votes = list(plan[0]), list(plan[1])
    yield from [(blocks, votes), (tuple(blocks), tuple(votes)), (blocks, votes + votes), (blocks, votes[::-1])]
    yield from [(blocks, [*votes, *case.votes]), (blocks[::-1], votes), (blocks + blocks, votes), [blocks, votes]]
    yield from [(blocks,), (blocks, votes, []), (votes, blocks), ([list(row) for row in blocks], votes)]
    yield from [(blocks, [list(vote) for vote in votes]), ([], []), ([], votes), (blocks, []), None]
    yield from [(dict(blocks), votes), ([[block] for block in blocks], votes), (blocks, [vote[1:] for vote in votes])]
    for at in range(len(blocks)):
        yield (blocks[:at] + blocks[at + 1:], votes)
    for at in range(len(votes)):
        yield (blocks, votes[:at] + votes[at + 1:])
    later = after(case, (blocks, votes))
    for _ in range(6):
        more = (random.choice(list(case.weights)), *random.choice(model.all_links(later.parents)))
        yield (blocks, [*votes, more])
        yield ([], [more])
    yield (blocks + [("fresh", random.choice(list(later.parents)))], votes)


def honest_sets(parents, own, links):
    """The greatest sets of links, with some that are given, of which no two break a rule."""
    def fits(one, other):
        return breaks(parents, one, other) == "none"

    found = []

    def grow(chosen, more, gone):
        if not more and not gone:
            found.append(chosen)
        for at, link in enumerate(more):
            seen = [*gone, *more[:at]]
            grow([*chosen, link], [other for other in more[at + 1:] if fits(link, other)],
                 [other for other in seen if fits(link, other)])

    grow(list(own), [link for link in links if link not in own and all(fits(link, other) for other in own)], [])
    return found


def by_all_votes(case, parents, liars, keepers, wanted):
    """Whether a wanted block of a tree becomes final by any votes in it, all of which are tried.

    Liars vote as they like, keepers so that they are not guilty, all others not any more.
    """
    links = model.all_links(parents)
    choices = []
    for voter in case.weights:
        own = sorted({vote[1:] for vote in case.votes if vote[0] == voter})
        mine = honest_sets(parents, own, links) if voter in keepers else [own]
        choices.append([links] if voter in liars else mine)
    least = case.share * case.whole()
    order = sorted(parents, key=lambda block: height(parents, block))
    wants = {block for block in parents if wanted(block)}
    for chosen in product(*choices):
        weights = dict.fromkeys(links, 0)
        for voter, mine in zip(case.weights, chosen):
            for link in mine:
                weights[link] += case.weights[voter]
        justified = {case.root}
        for block in order:
            if any(target == block and source in justified and weight >= least
                   for (source, target), weight in weights.items()):
                justified.add(block)
        if any(source in wants & justified and parents[target] == source and weight >= least
               for (source, target), weight in weights.items()):
            return True
    return False


def tiny_cases(count, seed, parents):
    """Cases with few voters over one small tree; the same on each run."""
    random = Random(seed)
    for _ in range(count):
        names = ["ann", "bob", "cy"][:random.randrange(2, 4)]
        weights = {name: model.Fraction(random.randrange(1, 4)) for name in names}
        case = Case(parents, weights, random.choice(model.SHARES), [])
        links = model.all_links(parents)
        steps = [link for link in links if parents[link[1]] == link[0]]
        for link in [*steps, random.choice(links)]:
            case.votes += [(name, *link) for name in names if random.random() < 0.7]
        yield case
