"""Registries, wishes and cases for tests: some told by hand, others by a row of chances that is always the same."""

import random

ONE, TWO, THREE = (1, 0, 0), (2, 0, 0), (3, 0, 0)
EVERY = (((0, 0, 0), None),)
PLAIN = ((), (), (), (), ())
RANGES = [EVERY] * 12 + [((ONE, TWO),), ((TWO, None),), ((ONE, (1, 0, 1)),), (((0, 0, 0), TWO),), (),
                         ((ONE, (1, 0, 1)), (THREE, None))]
FEATURES = ["f", "g", "h"]
PATHS = ["a", "a-b", "a/b", "a/b/c", "b", "b/a", "c/c"]
CONTENTS = ["", "x", "a\nb", "\\", "\\n", " in blanks ", "x : y ; (z) # w", "~" * 200]


def lot(chance, some, most):
    """Return an ascending tuple of some members of a list."""
    return tuple(sorted(chance.sample(some, chance.randint(0, min(most, len(some))))))


def some_need(chance, names):
    features = lot(chance, FEATURES, 2) if chance.random() < 0.25 else ()
    return (chance.choice(names), chance.choice(RANGES), features, chance.random() < 0.5)


def some_notes(chance, names, most):
    return tuple((chance.choice(names), chance.choice(RANGES)) for _ in range(most) if chance.random() < 0.2)


def some_needs(chance, names, most):
    return tuple(some_need(chance, names) for _ in range(chance.randint(0, most)))


def some_files(chance):
    paths = []
    for path in chance.sample(PATHS, chance.randint(0, 2)):
        if not any(path == other or path.startswith(other + "/") or other.startswith(path + "/") for other in paths):
            paths.append(path)
    return tuple((path, chance.choice(CONTENTS)) for path in sorted(paths))


def some_pack(chance, name, version, names):
    """Return a pack, most often a small one."""
    features = sorted(chance.sample(FEATURES, chance.choice([0, 1, 2, 3, 3])))
    told = tuple((feature, lot(chance, features, 1), some_needs(chance, names, 1) if chance.random() < 0.5 else ())
                 for feature in features)
    files = some_files(chance) if chance.random() < 0.6 else ()
    return (name, version, some_needs(chance, names, chance.randint(0, 2)), some_notes(chance, names, 1), some_notes(chance, names, 2),
            told, lot(chance, features, 2), files)


def some_registry(chance, names):
    """Return a registry of packs of some names."""
    packs = []
    for name in names:
        for version in sorted(chance.sample([ONE, (1, 5, 0), TWO, THREE], chance.choice([0, 1, 2, 2, 3]))):
            packs.append(some_pack(chance, name, version, names))
    marks = [pack[:2] for pack in packs]
    return tuple(packs), tuple(mark for mark in marks if chance.random() < 0.12)


def some_lock(chance, registry, names):
    """Return a lock, of versions of the registry or of others."""
    lock = {}
    for name in chance.sample(names, len(names)):
        if chance.random() < 0.4:
            versions = [pack[1] for pack in registry[0] if pack[0] == name] + [(9, 9, 9)]
            lock[name] = (chance.choice(versions), lot(chance, FEATURES, 1))
    return lock


def some_case(seed):
    """Return the case with a number."""
    chance = random.Random(seed)
    names = ["a", "b", "c", "d"][:chance.randint(1, 4)]
    registry = some_registry(chance, names)
    wish = some_needs(chance, names, 3)
    return registry, wish, some_lock(chance, registry, names), chance.choice(["newest", "oldest", "steady"])


def some_choice(chance, case):
    """Return a choice of a case."""
    versions = {}
    for pack in case[0][0]:
        versions.setdefault(pack[0], []).append(pack[1])
    return {name: chance.choice(versions[name]) for name in chance.sample(sorted(versions), len(versions))
            if chance.random() < 0.8}


def full_pack(name="app", version=ONE):
    """Return a pack in which each part has something."""
    fast = ("fast", ("small",), (("zip", EVERY, ("deep",), True), ("app", (), (), False)))
    needs = (("lib", ((ONE, TWO), (THREE, None)), ("a", "b"), False), ("zip", EVERY, (), True))
    return (name, version, needs, (("log", EVERY),), (("old", ((ONE, (1, 0, 1)),)), ("log", ())),
            (fast, ("small", (), ())), ("fast", "small"), (("app/doc", "a\nb\\n"), ("app/run", "")))


def full_case():
    """Return a case in which each part has something."""
    packs = (full_pack(), full_pack("app", TWO), ("lib", ONE) + PLAIN + ((("lib/x", "x"),),))
    registry = (packs, (("app", TWO), ("lib", ONE)))
    wish = (("app", EVERY, ("fast",), True), ("none-such", (), (), False))
    return registry, wish, {"app": (ONE, ("fast", "small")), "gone": (THREE, ())}, "steady"


def keen_need(chance, names):
    features = lot(chance, FEATURES, 2) if chance.random() < 0.6 else ()
    return (chance.choice(names), chance.choice(RANGES[8:]), features, chance.random() < 0.3)


def keen_pack(chance, name, version, names):
    """Return a pack in which features do much."""
    features = FEATURES if chance.random() < 0.8 else FEATURES[:chance.randint(0, 2)]
    told = tuple((feature, lot(chance, features, 2), tuple(keen_need(chance, names) for _ in range(chance.choice([0, 0, 1]))))
                 for feature in features)
    needs = tuple(keen_need(chance, names) for _ in range(chance.choice([0, 0, 1, 2])))
    return (name, version, needs, some_notes(chance, names, 1), some_notes(chance, names, 1), told, lot(chance, features, 2),
            some_files(chance) if chance.random() < 0.4 else ())


def keen_case(seed):
    """Return the case with a number, of few names; its features call each other, and other names."""
    chance = random.Random(seed)
    names = ["a", "b", "c"][:chance.randint(1, 3)]
    packs = tuple(keen_pack(chance, name, version, names) for name in names
                  for version in sorted(chance.sample([ONE, (1, 0, 1), TWO, THREE], chance.choice([1, 2, 2, 3]))))
    registry = packs, tuple(pack[:2] for pack in packs if chance.random() < 0.1)
    wish = tuple(keen_need(chance, names) for _ in range(chance.choice([1, 1, 2])))
    return registry, wish, some_lock(chance, registry, names), chance.choice(["newest", "oldest", "steady"])
