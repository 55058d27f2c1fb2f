"""Disks, stores, logs, trees and generations, told once more: slowly, by dicts, and without any call of the package."""

import random
import re

from tests.samples import ONE, PLAIN, TWO, lot

NAME = "[a-z][a-z0-9-]{0,19}"
PATH = f"{NAME}(?:/{NAME})*"
SHELF = "store/c(?:0|[1-9][0-9]{0,18})"
CONTENTS = ["", "x", "ab", "y\nz"]
# Paths near those that mean something, which mean nothing themselves.
NEAR = ["store/c01", "store/c-1", "store/cx", "store/c", "store/d0", "store/c0/c0", "stores/c0", "store", "tree", "trees/a",
        "log-new/a", "log/a", "lock/a", "locks", "gen/g01", "gen/gx", "gen/g", "gen/g-1", "gen/g0/g0", "gen/h0", "gens/g0",
        "gen", "mine", "mine/tree/a", "store/c00", "gen/g00"]
# Paths of a disk on which deeds of chance are done.
PATHS = ["a", "a/b", "b", "c"]


def done(files, deed):
    """Return what stands on a disk behind one deed."""
    word, path = deed[:2]
    others = {other: content for other, content in files.items() if other != path}
    if word == "put":
        return {**others, path: deed[2]}
    if word == "drop":
        return others
    if path not in files or path == deed[2]:
        return dict(files)
    return {**others, deed[2]: files[path]}


def behind(files, deeds):
    for deed in deeds:
        files = done(files, deed)
    return files


def cut(files, deeds, many, signs):
    """Return what stands on a disk behind a cut, deed by deed."""
    for deed in deeds:
        if many == 0:
            return done(files, ("put", deed[1], deed[2][:signs])) if signs is not None and deed[0] == "put" else dict(files)
        files, many = done(files, deed), many - 1
    return dict(files)


def ways_to_cut(deeds):
    """Return the list of (many, signs) of all cuts, in their order."""
    found = []
    for many in range(len(deeds) + 1):
        found.append((many, None))
        if many < len(deeds) and deeds[many][0] == "put":
            found += [(many, signs) for signs in range(len(deeds[many][2]))]
    return found


def some_deed(chance):
    word = chance.choice(["put", "put", "drop", "move"])
    if word == "put":
        return (word, chance.choice(PATHS), chance.choice(CONTENTS))
    return (word, chance.choice(PATHS)) if word == "drop" else (word, chance.choice(PATHS), chance.choice(PATHS))


def some_deeds(chance, most):
    return [some_deed(chance) for _ in range(chance.randint(0, most))]


def shuffled(chance, files):
    """Return the same dict with its keys in an order of chance."""
    return {path: files[path] for path in chance.sample(sorted(files), len(files))}


def numbered(files, head):
    """Return the dict from the integers behind a head to what stands there, ascending."""
    found = {}
    for path in files:
        match = re.fullmatch(head + "(0|[1-9][0-9]{0,18})", path)
        if match:
            found[int(match[1])] = files[path]
    return {number: found[number] for number in sorted(found)}


def shelf_with(files, content):
    """Return the path of the least shelf with a content, None if there is none."""
    for number, held in numbered(files, "store/c").items():
        if held == content:
            return f"store/c{number}"
    return None


def on_shelves(files):
    return set(numbered(files, "store/c").values())


def kept_now(files, contents):
    """Return the list of the deeds that bring contents into the store."""
    deeds = []
    for content in contents:
        now = behind(files, deeds)
        if content not in on_shelves(now):
            number = 0
            while f"store/c{number}" in now:
                number += 1
            deeds += [("put", "store/new", content), ("move", "store/new", f"store/c{number}")]
    return deeds


def tree(files):
    return {path[5:]: files[path] for path in files if path[:5] == "tree/"}


def read_log(text):
    """Return the log that a text shows, None if it shows none."""
    match = re.fullmatch(rf"log (0|[1-9][0-9]*)((?:\n(?:drop {PATH}|put {PATH} {SHELF}))*)\nlock ({SHELF})", text)
    if not match:
        return None
    steps = tuple(tuple(line.split(" ")) for line in match[2].split("\n")[1:])
    return (steps, match[3]) if len(steps) == int(match[1]) else None


def tell_log(log):
    return "".join([f"log {len(log[0])}\n"] + [" ".join(step) + "\n" for step in log[0]] + ["lock " + log[1]])


def good_log(files):
    """Return the log that a mending does, None if there is none."""
    log = read_log(files["log"]) if "log" in files else None
    if log is None or any(shelf not in files for shelf in [step[2] for step in log[0] if step[0] == "put"] + [log[1]]):
        return None
    return log


def mend(files):
    """Return the list of the deeds of a mending."""
    deeds, log = [], good_log(files)
    if log:
        for step in log[0]:
            deeds.append(("drop", f"tree/{step[1]}") if step[0] == "drop" else ("put", f"tree/{step[1]}", files[step[2]]))
        deeds.append(("put", "lock", files[log[1]]))
    if "log" in files:
        deeds.append(("drop", "log"))
    if "log-new" in files:
        deeds.append(("drop", "log-new"))
    return deeds


def mended(files):
    return behind(files, mend(files))


def meant(files):
    """Return the tree and the lock's text that stand behind a mending."""
    calm = mended(files)
    return tree(calm), calm.get("lock")


def by_log(files, new, lock, shelf_of):
    """Return the list of the deeds that write a log to a new tree and do it, and of the steps in it."""
    old = tree(files)
    drops = sorted((path for path in old if path not in new), reverse=True)
    puts = sorted(path for path in new if old.get(path) != new[path])
    steps = tuple(("drop", path) for path in drops) + tuple(("put", path, shelf_of(path)) for path in puts)
    return ([("put", "log-new", tell_log((steps, lock))), ("move", "log-new", "log")] + [("drop", f"tree/{path}") for path in drops]
            + [("put", f"tree/{path}", new[path]) for path in puts] + [("put", "lock", files[lock]), ("drop", "log")])


def show_lock(plan):
    """Return the text of a lock, line by line."""
    lines = []
    for name in sorted(plan):
        version, features = plan[name]
        behind_it = " ; with " + " ".join(features) if features else ""
        lines.append(f"lock {name} {'.'.join(map(str, version))}{behind_it}")
    return "\n".join(lines)


def tree_of(registry, plan):
    return {path: content for pack in registry[0] if pack[0] in plan and plan[pack[0]][0] == pack[1] for path, content in pack[7]}


def install(files, registry, plan):
    """Return the list of the deeds of an installing."""
    first = mend(files)
    calm, new, text = behind(files, first), tree_of(registry, plan), show_lock(plan)
    puts = sorted(path for path in new if tree(calm).get(path) != new[path])
    keep = kept_now(calm, [new[path] for path in puts] + [text])
    ready = behind(calm, keep)
    return first + keep + by_log(ready, new, shelf_with(ready, text), lambda path: shelf_with(ready, new[path]))


def some_pack(chance, name, version):
    """Return a pack of files alone, whose paths do not touch those of other names."""
    paths = sorted(chance.sample([name, f"{name}/a", f"{name}/b", f"{name}-x", f"z/{name}", f"z/{name}-y"], chance.randint(0, 4)))
    paths = [path for path in paths if not path.startswith(name + "/") or name not in paths]
    return (name, version) + PLAIN + (tuple((path, chance.choice(CONTENTS)) for path in paths),)


def some_registry(chance):
    """Return a registry of packs of files."""
    packs = [some_pack(chance, name, version)[:2] + PLAIN + some_pack(chance, name, version)[7:] for name in "ab" for version in (ONE, TWO)]
    return tuple(packs), ()


def some_plan(chance, registry):
    """Return a dict from some names to versions of packs, with features."""
    packs = chance.sample(registry[0], chance.randint(0, len(registry[0])))
    plan = {}
    for pack in packs:
        plan.setdefault(pack[0], (pack[1], lot(chance, ["f", "g"], 2)))
    return plan


def some_shelves(chance):
    """Return shelves with gaps, some with the same content."""
    numbers = chance.sample([0, 1, 2, 3, 5, 9, 10, 11, 100, 10 ** 18], chance.randint(0, 5))
    found = {f"store/c{number}": chance.choice(CONTENTS + ["lock a 1.0.0", "kept"]) for number in numbers}
    if chance.random() < 0.3:
        found["store/new"] = chance.choice(CONTENTS)
    return found


def some_log(chance, files):
    """Return the text of a log, of shelves that stand there or not, or one that is none."""
    shelves = [path for path in files if re.fullmatch(SHELF, path)] or ["store/c0"]
    if chance.random() < 0.2:
        shelves = shelves + ["store/c77"]
    steps = []
    for _ in range(chance.randint(0, 3)):
        path = chance.choice(["a", "b", "z/a", "store/c0", "lock"])
        steps.append(("drop", path) if chance.random() < 0.4 else ("put", path, chance.choice(shelves)))
    text = tell_log((tuple(steps), chance.choice(shelves)))
    return text if chance.random() < 0.75 else chance.choice([text[:-1], text + "\n", "", text.replace("log", "log ", 1), "log x"])


def some_disk(seed):
    """Return what may stand on a disk: a tree, a lock, shelves, logs, and things beside them."""
    chance = random.Random(seed)
    files = {path: chance.choice(CONTENTS) for path in chance.sample(NEAR, chance.randint(0, 3))}
    files.update({f"tree/{path}": chance.choice(CONTENTS) for path in chance.sample(["a", "b", "a/a", "z/a", "old", "store/c0", "tree/x"], chance.randint(0, 4))})
    files.update(some_shelves(chance))
    if chance.random() < 0.6:
        files["lock"] = chance.choice(["", "before", "lock a 1.0.0"])
    if chance.random() < 0.5:
        files["log"] = some_log(chance, files)
    if chance.random() < 0.3:
        files["log-new"] = some_log(chance, files)
    return shuffled(chance, files)
