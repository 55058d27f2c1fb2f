"""Houses, told once more: the deeds of each command on a dict, and a plain model of values."""

import random

from packsworn.errors import NoGeneration, NoPack, NoText
from packsworn.reader import read_registry, read_wish
from packsworn.texts import show_registry, show_wish
from tests import disks, gens, slow
from tests.samples import EVERY, ONE, PLAIN, THREE, TWO

MODES = ["newest", "oldest", "steady"]
BAD_TEXTS = ["pack", "pack a 1.0.0\npack a 1.0.0", "pack a 01.0.0", "wish", "wish a ; from", "withdrawn a 1.0.0", "x", "mode newest"]


def read(call, text, empty):
    """Return what a text shows, or what stands for a text that is refused."""
    try:
        return call(text)
    except NoText:
        return empty


def registry_on(files):
    return read(read_registry, files["registry"], ((), ())) if "registry" in files else ((), ())


def wish_on(files):
    return read(read_wish, files["wish"], ()) if "wish" in files else ()


def lock_on(files):
    text = disks.meant(files)[1]
    return (gens.read_lock(text) if text is not None else None) or {}


def starting(files):
    return disks.mend(files) + [("drop", path) for path in ("registry-new", "wish-new") if path in files]


def laid_over(below, above):
    packs = {pack[:2]: pack for pack in below[0] + above[0]}
    new = {pack[:2] for pack in above[0]}
    gone = set(above[1]) | {mark for mark in below[1] if mark not in new}
    return tuple(packs[mark] for mark in sorted(packs)), tuple(sorted(gone))


def marked(registry, name, version, gone):
    """Return the registry in which a pack is withdrawn, or is not."""
    mark = (name, version)
    if mark not in [pack[:2] for pack in registry[0]]:
        raise NoPack(name, version)
    others = {other for other in registry[1] if other != mark}
    return registry[0], tuple(sorted(others | ({mark} if gone else set())))


def first_plan(case):
    plans = slow.plans(case)
    return plans[0] if plans else None


def new_registry(registry, command):
    """Return the registry behind a command that puts one."""
    if command[0] == "publish":
        return laid_over(registry, read_registry(command[1]))
    return marked(registry, command[1], command[2], command[0] == "withdraw")


def put(path, text):
    return [("put", path + "-new", text), ("move", path + "-new", path)]


def own_deeds(files, command):
    """Return the deeds of a command on files behind a starting; raise what it raises."""
    word, registry = command[0], registry_on(files)
    if word in ("publish", "withdraw", "restore"):
        return put("registry", show_registry(new_registry(registry, command)))
    if word == "wish_for":
        return put("wish", show_wish(read_wish(command[1])))
    if word == "install":
        plan = first_plan((registry, wish_on(files), lock_on(files), command[1]))
        if plan is None:
            return []
        deeds = disks.install(files, registry, plan)
        return deeds + gens.record(disks.behind(files, deeds))
    if word == "back":
        deeds = gens.rollback(files, command[1])
        if deeds is None:
            raise NoGeneration(command[1])
        return deeds
    if word == "collect":
        return gens.collect(files, command[1])
    return gens.repair(files, registry) if word == "repair" else []


def deeds_of(files, command):
    """Return all deeds of a command."""
    first = starting(files)
    return first + own_deeds(disks.behind(files, first), command)


def called(house, command):
    """Return what a call of a House returns."""
    return getattr(house, command[0])(*command[1:])


class Model:
    """The plain values of a house: registry, wish, tree, lock's text and generations."""

    def __init__(self, registry=((), ()), wish=(), tree=None, text=None, generations=None):
        self.registry, self.wish, self.tree, self.text, self.generations = registry, wish, tree or {}, text, generations or {}

    def behind(self, command):
        """Return the Model behind a command; raise what it raises."""
        other = Model(self.registry, self.wish, self.tree, self.text, self.generations)
        word = command[0]
        if word in ("publish", "withdraw", "restore"):
            other.registry = new_registry(self.registry, command)
        elif word == "wish_for":
            other.wish = read_wish(command[1])
        elif word == "install":
            other.install(command[1])
        elif word == "back":
            if self.generations.get(command[1], ({}, None))[1] is None:
                raise NoGeneration(command[1])
            other.tree, other.text = self.generations[command[1]]
        elif word == "collect":
            other.generations = {number: self.generations[number] for number in self.generations if number in command[1]}
        elif word == "repair":
            other.generations = {number: self.repaired(self.generations[number]) for number in self.generations}
        return other

    def case(self, mode):
        lock = (gens.read_lock(self.text) if self.text is not None else None) or {}
        return self.registry, self.wish, lock, mode

    def install(self, mode):
        plan = first_plan(self.case(mode))
        if plan is not None:
            self.tree, self.text = disks.tree_of(self.registry, plan), disks.show_lock(plan)
            number = max(self.generations, default=-1) + 1
            self.generations = {**self.generations, number: (self.tree, self.text)}

    def repaired(self, generation):
        tree, text = generation
        lock = None if text is None else gens.read_lock(text)
        marks = [pack[:2] for pack in self.registry[0]]
        if lock is None or any((name, held[0]) not in marks for name, held in lock.items()):
            return generation
        return disks.tree_of(self.registry, lock), text

    def values(self):
        return {"registry": self.registry, "wish": self.wish, "tree": (self.tree, self.text), **{number: told for number, told in self.generations.items()}}


def values_of(house):
    """Return the plain values that a House tells."""
    found = {"registry": house.registry(), "wish": house.wish(), "tree": (house.tree(), house.lock_text())}
    return {**found, **{number: house.tree_of_number(number) for number in house.numbers()}}


def some_house_pack(chance, name, version):
    """Return a pack of few needs and files, with a feature."""
    other = {"a": "b", "b": "c", "c": "a"}[name]
    needs = ((other, chance.choice([EVERY, ((TWO, None),), ((ONE, TWO),)]), chance.choice([(), (), ("f",)]), chance.random() < 0.5),) if chance.random() < 0.5 else ()
    features = (("f", (), ()),) if chance.random() < 0.6 else ()
    own = disks.some_pack(chance, name, version)
    return (name, version, needs) + PLAIN[:2] + (features, chance.choice([(), tuple(told[0] for told in features)]), own[7])


def some_text(chance):
    """Return the text of a small registry, or one that is refused."""
    if chance.random() < 0.1:
        return chance.choice(BAD_TEXTS)
    packs = tuple(some_house_pack(chance, name, chance.choice([ONE, ONE, TWO, THREE])) for name in sorted(chance.sample("abc", chance.choice([0, 1, 1, 2, 3]))))
    return show_registry((packs, tuple(pack[:2] for pack in packs if chance.random() < 0.2)))


def some_wish(chance):
    if chance.random() < 0.15:
        return chance.choice(BAD_TEXTS)
    names = chance.sample("abc", chance.choice([0, 1, 1, 2]))
    return show_wish(tuple((name, chance.choice([EVERY, EVERY, ((ONE, TWO),), ((TWO, None),)]), chance.choice([(), (), ("f",)]), True) for name in names))


def some_command(chance):
    """Return a command, as a tuple of its word and its arguments."""
    word = chance.choice(["publish", "publish", "withdraw", "restore", "wish_for", "install", "install", "install", "back", "back", "collect", "repair", "repair", "start"])
    if word == "publish":
        return word, some_text(chance)
    if word in ("withdraw", "restore"):
        return word, chance.choice("abc"), chance.choice([ONE, TWO, THREE])
    if word == "wish_for":
        return word, some_wish(chance)
    if word == "install":
        return word, chance.choice(MODES)
    if word == "back":
        return word, chance.randint(-1, 4)
    if word == "collect":
        return word, tuple(sorted(chance.sample(range(-1, 7), chance.choice([0, 2, 4, 6, 7]))))
    return (word,)


def grown(seed):
    """Return the files of a house that was led by some commands, whatever was refused, cut at last perhaps."""
    chance = random.Random(seed)
    files = {"mine": "kept", "gen/gx": "kept"}
    commands = [("publish", some_text(chance)), ("publish", some_text(chance)), ("wish_for", some_wish(chance)), ("install", chance.choice(MODES))]
    for command in commands + [some_command(chance) for _ in range(chance.randint(0, 4))]:
        try:
            deeds = deeds_of(files, command)
        except (NoText, NoPack, NoGeneration):
            continue
        files = disks.behind(files, deeds)
    return files
