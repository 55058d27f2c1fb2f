"""Cases with one plan of many names that need each other, and a slow listing of what stands behind what."""

import itertools
import random

from tests import papers, slow
from tests.samples import EVERY, ONE, TWO
from tests.small import case_of, pack


def net_need(chance, names):
    features = ("f",) if chance.random() < 0.4 else ()
    return (chance.choice(names), EVERY, features, chance.random() < 0.5)


def net_pack(chance, name, names, share):
    """Return a pack with few needs, some of them under a feature."""
    needs = tuple(net_need(chance, names) for _ in range(3) if chance.random() < share)
    extras = tuple(net_need(chance, names) for _ in range(2) if chance.random() < share)
    return pack(name, chance.choice([ONE, TWO]), needs, features=(("f", ("g",), ()), ("g", (), extras)),
                defaults=chance.choice([(), ("f",), ("g",)]))


def net_case(seed):
    """Return a case with the plan that has all that the wish leads to."""
    chance = random.Random(seed)
    names = list("abcdefghij")[:chance.randint(1, 10)]
    share = chance.choice([0.1, 0.2, 0.3, 0.5])
    packs = [net_pack(chance, name, names, share) for name in names]
    wish = tuple(net_need(chance, names) for _ in range(chance.randint(0, 4)))
    case = case_of(packs, wish)
    every = {one[0]: one[1] for one in packs}
    reached = slow.ranks(case, every)
    plan = slow.plan(case, {name: every[name] for name in names if (name,) in reached})
    return case, plan


def nets(many):
    return [net_case(seed) for seed in range(many)]


def held(case, plan):
    """Return a list of (line, need) for the lines that hold."""
    return [(line, need) for line, conditions, need in slow.needs_with_conditions(case)
            if all(papers.gives(plan, variable) == option for variable, option in conditions)]


def needed(case, plan):
    """Return the set of the pairs (name, needed name)."""
    return {(line[1], need[0]) for line, need in held(case, plan) if line[0] != "wish"}


def needed_at_last(case, plan):
    """Return the set of the pairs of names of which one needs the other one, by others or not."""
    found = needed(case, plan)
    for via, one, other in itertools.product(sorted(plan), repeat=3):
        if (one, via) in found and (via, other) in found:
            found.add((one, other))
    return found


def rings(case, plan):
    at_last = needed_at_last(case, plan)
    return sorted({tuple(sorted(other for other in plan if (name, other) in at_last and (other, name) in at_last))
                   for name in plan if (name, name) in at_last})


def groups(case, plan):
    found = rings(case, plan)
    return sorted(found + [(name,) for name in plan if not any(name in ring for ring in found)])


def group_of(case, plan):
    return {name: group for group in groups(case, plan) for name in group}


def is_order(case, plan, row):
    """Tell whether a tuple of groups is an install order."""
    place = {name: at for at, group in enumerate(row) for name in group}
    return sorted(row) == groups(case, plan) and all(place[other] <= place[name] for name, other in needed(case, plan))


def least_order(case, plan):
    """Return the install order that has the least group at each place."""
    row, left, pairs, its = (), groups(case, plan), needed(case, plan), group_of(case, plan)
    while left:
        able = [group for group in left if all(its[other] == group or its[other] in row
                                               for name, other in pairs if name in group)]
        row += (able[0],)
        left.remove(able[0])
    return row


def depth(case, plan, group, known):
    """Return how many rounds must go ahead of a group."""
    if group not in known:
        its = group_of(case, plan)
        below = {its[other] for name, other in needed(case, plan) if name in group and its[other] != group}
        known[group] = max([1 + depth(case, plan, other, known) for other in below], default=0)
    return known[group]


def rounds(case, plan):
    known = {}
    deep = {group: depth(case, plan, group, known) for group in groups(case, plan)}
    return tuple(tuple(sorted(name for group in deep for name in group if deep[group] == at))
                 for at in range(1 + max(deep.values(), default=-1)))


def is_chain(case, plan, value):
    its = group_of(case, plan)
    told = {line: (its[line[1]], its[need[0]]) for line, need in held(case, plan) if line[0] != "wish"}
    if type(value) is not tuple or not all(papers.member(line, list(told)) for line in value):
        return False
    return all(told[line][0] != told[line][1] for line in value) and all(
        told[one][1] == told[other][0] for one, other in zip(value, value[1:]))
