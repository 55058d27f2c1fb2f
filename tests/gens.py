"""Manifests, generations, collecting and looking over, told once more: slowly, and without any call of the package."""

import random
import re

from tests import disks
from tests.samples import ONE, TWO

READ_LOCK = re.compile(rf"lock ({disks.NAME}) (\d+)\.(\d+)\.(\d+)((?: ; with(?: {disks.NAME})+)?)")


def read_manifest(text):
    """Return the manifest that a text shows, None if it shows none."""
    match = re.fullmatch(rf"entries (0|[1-9][0-9]*)((?:\n{disks.PATH} {disks.SHELF})*)\nlock (-|{disks.SHELF})", text)
    if not match:
        return None
    entries = tuple(tuple(line.split(" ")) for line in match[2].split("\n")[1:])
    paths = [path for path, _ in entries]
    if len(entries) != int(match[1]) or paths != sorted(set(paths)):
        return None
    return entries, None if match[3] == "-" else match[3]


def tell_manifest(manifest):
    lock = "-" if manifest[1] is None else manifest[1]
    return "".join([f"entries {len(manifest[0])}\n"] + [f"{path} {shelf}\n" for path, shelf in manifest[0]] + [f"lock {lock}"])


def manifests(files):
    """Return the dict from the numbers of all generations to their manifests, or None."""
    return {number: read_manifest(text) for number, text in disks.numbered(files, "gen/g").items()}


def named(manifest):
    return [shelf for _, shelf in manifest[0]] + [manifest[1]] * (manifest[1] is not None)


def trees(files):
    """Return the dict from the numbers of the sound generations to their trees and locks' texts."""
    found = {}
    for number, manifest in manifests(files).items():
        if manifest and all(shelf in files for shelf in named(manifest)):
            found[number] = {path: files[shelf] for path, shelf in manifest[0]}, files.get(manifest[1])
    return found


def writing(files, tree, lock, number):
    """Return the deeds that write the manifest of a tree on shelves and a lock's shelf."""
    entries = tuple((path, disks.shelf_with(files, tree[path])) for path in sorted(tree))
    return [("put", "gen/new", tell_manifest((entries, lock))), ("move", "gen/new", f"gen/g{number}")]


def record(files):
    first = disks.mend(files)
    calm = disks.behind(files, first)
    tree, text = disks.tree(calm), calm.get("lock")
    keep = disks.kept_now(calm, [tree[path] for path in sorted(tree)] + [text] * (text is not None))
    ready = disks.behind(calm, keep)
    number = max(disks.numbered(files, "gen/g"), default=-1) + 1
    return first + keep + writing(ready, tree, None if text is None else disks.shelf_with(ready, text), number)


def rollback(files, number):
    """Return the deeds that lead back to a generation, None if they cannot."""
    tree, text = trees(files).get(number, (None, None))
    if text is None:
        return None
    entries, lock = manifests(files)[number]
    first = disks.mend(files)
    return first + disks.by_log(disks.behind(files, first), tree, lock, dict(entries).get)


def collect(files, numbers):
    first = disks.mend(files)
    calm = disks.behind(files, first)
    told = manifests(calm)
    needed = [shelf for number in numbers if told.get(number) for shelf in named(told[number])]
    drops = [f"gen/g{number}" for number in told if number not in numbers] + ["gen/new"]
    drops += [shelf for shelf in [f"store/c{number}" for number in disks.numbered(calm, "store/c")] if shelf not in needed] + ["store/new"]
    return first + [("drop", path) for path in drops if path in calm]


def spare(files):
    needed = [shelf for manifest in manifests(files).values() if manifest for shelf in named(manifest)]
    log = disks.read_log(files["log"]) if "log" in files else None
    if log:
        needed += [step[2] for step in log[0] if step[0] == "put"] + [log[1]]
    return [f"store/c{number}" for number in disks.numbered(files, "store/c") if f"store/c{number}" not in needed]


def read_lock(text):
    """Return the lock that a text shows, None if it shows none."""
    lock = {}
    for line in text.split("\n") if text else []:
        match = READ_LOCK.fullmatch(line)
        if not match:
            return None
        lock[match[1]] = (tuple(int(match[at]) for at in (2, 3, 4)), tuple(match[5].split(" ")[3:]))
    return lock if disks.show_lock(lock) == text and all(list(held[1]) == sorted(set(held[1])) for held in lock.values()) else None


def due(files, registry, number):
    """Return the due tree of a generation, None if it is not known."""
    manifest = manifests(files)[number]
    if not manifest or manifest[1] not in files:
        return None
    lock = read_lock(files[manifest[1]])
    marks = [pack[:2] for pack in registry[0]]
    if lock is None or any((name, held[0]) not in marks for name, held in lock.items()):
        return None
    return disks.tree_of(registry, lock)


def findings(files, registry):
    found = set()
    for number, manifest in manifests(files).items():
        tree = due(files, registry, number)
        if tree is None:
            found.add((number, "unknown", ""))
            continue
        entries = dict(manifest[0])
        for path in set(entries) | set(tree):
            stands = files.get(entries.get(path))
            if path not in tree:
                found.add((number, "more", path))
            elif stands is None:
                found.add((number, "lacks", path))
            elif stands != tree[path]:
                found.add((number, "other", path))
    return sorted(found)


def repair(files, registry):
    deeds = disks.mend(files)
    calm = disks.behind(files, deeds)
    for number in sorted({number for number, word, _ in findings(calm, registry) if word != "unknown"}):
        tree = due(calm, registry, number)
        deeds = deeds + disks.kept_now(disks.behind(files, deeds), [tree[path] for path in sorted(tree)])
        deeds = deeds + writing(disks.behind(files, deeds), tree, manifests(calm)[number][1], number)
    return deeds


def some_manifest(chance, files):
    """Return the text of a manifest, of shelves that stand there or not, or one that is none."""
    shelves = [path for path in files if re.fullmatch(disks.SHELF, path)] or ["store/c0"]
    if chance.random() < 0.3:
        shelves = shelves + ["store/c77"]
    paths = sorted(chance.sample(["a", "b", "z/a", "old", "a/a"], chance.randint(0, 3)))
    lock = chance.choice(shelves) if chance.random() < 0.8 else None
    text = tell_manifest((tuple((path, chance.choice(shelves)) for path in paths), lock))
    return text if chance.random() < 0.8 else chance.choice([text[:-1], text + "\n", "", text.replace("entries ", "entries 0"), "entries 0"])


def some_disk(seed):
    """Return what may stand on a disk, with generations, sound ones and others."""
    files, chance = disks.some_disk(seed), random.Random(-1 - seed)
    numbers = chance.sample([0, 1, 2, 3, 7, 9, 10, 12, 10 ** 18], chance.randint(0, 4))
    files.update({f"gen/g{number}": some_manifest(chance, files) for number in numbers})
    if chance.random() < 0.3:
        files["gen/new"] = some_manifest(chance, files)
    return disks.shuffled(chance, files)


def known_disk(seed):
    """Return a registry, and a disk with generations of plans of it, some of them spoilt."""
    chance = random.Random(seed)
    registry = disks.some_registry(chance)
    files = disks.some_disk(seed) if chance.random() < 0.4 else {}
    for _ in range(chance.randint(1, 4)):
        plan = disks.some_plan(chance, registry)
        files = disks.behind(files, disks.install(files, registry, plan))
        files = disks.behind(files, record(files))
    for path in chance.sample(sorted(files), min(len(files), chance.choice([0, 0, 1, 2]))):
        if path.startswith("store/c"):
            files = disks.done(files, chance.choice([("drop", path), ("put", path, chance.choice(disks.CONTENTS))]))
        elif path.startswith("gen/g"):
            files = disks.done(files, ("put", path, chance.choice([files[path] + "\n", some_manifest(chance, files)])))
    if chance.random() < 0.3:
        files = disks.cut(files, disks.install(files, registry, {"a": (ONE, ()), "b": (TWO, ())}), chance.randint(0, 12), chance.choice([None, 1]))
    gone = registry if chance.random() < 0.8 else (registry[0][1:], ())
    return gone, disks.shuffled(chance, files)
