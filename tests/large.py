"""Cases as large as the document allows, and ones in which much must be tried."""

import random

from tests.samples import EVERY, ONE, PLAIN

VERSIONS = [(1, 0, 0), (1, 5, 0), (2, 0, 0), (2, 1, 0), (3, 0, 0)]
NAMES = ["n" + letter for letter in "abcdefghijkl"]
MODES = ["newest", "oldest", "steady"]


def some_of(chance, share):
    """Return a range with each of the versions by chance."""
    return tuple((version, version[:2] + (1,)) for version in VERSIONS if chance.random() < share)


def some_range(chance, tight):
    if chance.random() > tight:
        return EVERY
    return chance.choice([((chance.choice(VERSIONS), None),), (((0, 0, 0), chance.choice(VERSIONS[1:])),), some_of(chance, 0.6)])


def some_need(chance, tight):
    features = (chance.choice("fgh"),) if chance.random() < 0.3 else ()
    return (chance.choice(NAMES), some_range(chance, tight), features, chance.random() < 0.5)


def some_features(chance, tight):
    return tuple((feature, tuple(sorted(chance.sample("fgh", chance.randint(0, 1)))),
                  tuple(some_need(chance, tight) for _ in range(chance.randint(0, 2)))) for feature in "fgh")


def wide_pack(chance, name, version, tight, most):
    needs = tuple(some_need(chance, tight) for _ in range(chance.randint(0, most)))
    bars = tuple((chance.choice(NAMES), some_of(chance, 0.2)) for _ in range(chance.randint(0, 3)))
    files = tuple((path, "") for path in sorted(chance.sample([f"p{at}" for at in range(150)], 4)))
    return (name, version, needs, (), bars, some_features(chance, tight), (chance.choice("fgh"),), files)


def wide_case(seed, tight, most):
    """Return a case of 12 names of 5 versions, with all that a pack may have."""
    chance = random.Random(seed)
    packs = tuple(wide_pack(chance, name, version, tight, most) for name in NAMES for version in VERSIONS)
    wish = tuple(some_need(chance, tight) for _ in range(5))
    lock = {name: (chance.choice(VERSIONS), ()) for name in NAMES if chance.random() < 0.5}
    return (packs, tuple(pack[:2] for pack in packs if chance.random() < 0.05)), wish, lock, MODES[seed % 3]


def tight_case(seed, share):
    """Return a case of 12 names of 5 versions in which each version rules out some of those of seven other names."""
    chance = random.Random(seed)
    packs = []
    for name in NAMES:
        for version in VERSIONS:
            others = chance.sample([other for other in NAMES if other != name], 7)
            packs.append((name, version, ((others[0], some_of(chance, share), (), True),),
                          tuple((other, some_of(chance, share)) for other in others[1:4]),
                          tuple((other, some_of(chance, 1 - share)) for other in others[4:])) + PLAIN[2:])
    wish = tuple((name, EVERY, (), True) for name in chance.sample(NAMES, 5))
    return (tuple(packs), ()), wish, {name: (chance.choice(VERSIONS), ()) for name in NAMES}, MODES[seed % 3]


def crowded_case(many, mode):
    """Return a case in which all of many names are needed, and no two can have the same version: there are but five."""
    names = NAMES[:many]
    packs = tuple((name, version, ((names[(at + 1) % many], EVERY, (), True),), (), (), (), (), ((f"hole{hole}", ""),))
                  for at, name in enumerate(names) for hole, version in enumerate(VERSIONS))
    return (packs, ()), ((names[0], EVERY, (), True),), {"na": (ONE, ())}, mode


def idle_case(many):
    """Return a case whose lock has rings that nobody outside asks for."""
    names = NAMES[:many]
    packs = tuple((name, version, ((names[(at + 1) % many], EVERY, (), True),)) + PLAIN
                  for at, name in enumerate(names) for version in VERSIONS)
    return (packs, ()), (), {name: (ONE, ()) for name in names}, "steady"
