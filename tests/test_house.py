"""[48]: houses led by long rows of commands, beside a plain model of values, and wherever they are cut."""

import random
import unittest

from packsworn.disk import Disk
from packsworn.errors import NoGeneration, NoPack, NoText, PowerCut, Wrong
from packsworn.house import House
from packsworn.lookover import look_over
from packsworn.solver import answer
from tests import disks, gens, houses
from tests.houses import Model, called, deeds_of, grown, some_command, starting, values_of
from tests.kinds import bent, calls_alike, same, spoil, values
from tests.samples import ONE, TWO

REFUSED = (NoText, NoPack, NoGeneration)
SIGNS = [None, 0, 1, 2, 5, 40]
TEXT = "pack app 1.0.0\nneeds lib ; all ; bare\nfile run : go\npack app 2.0.0\nfile run : went\npack lib 1.0.0\nfile lib/x : "
READY = [("publish", TEXT), ("wish_for", "wish app ; below 2.0.0 ; bare"), ("install", "newest"), ("wish_for", "wish app ; all ; bare")]
# One command of each kind on a house that is ready, and on what its own value is.
COMMANDS = [("publish", "pack app 3.0.0\nfile run : gone\\n"), ("withdraw", "app", TWO), ("restore", "app", TWO), ("wish_for", "wish lib ; all"), ("install", "newest"),
            ("install", "steady"), ("install", "oldest"), ("back", 0), ("collect", (0,)), ("collect", ()), ("repair",), ("start",)]
OWN = {"publish": "registry", "withdraw": "registry", "restore": "registry", "wish_for": "wish", "install": "tree", "back": "tree", "start": ""}


def ready(files=None, more=()):
    house = House(files or {"mine": "kept"})
    for command in READY + list(more):
        called(house, command)
    return house


def bent_house():
    """Return a house one of whose generations has findings."""
    house = ready(more=[("install", "newest"), ("publish", "pack app 1.0.0\nneeds lib ; all ; bare\nfile run : other\nfile new : x")])
    assert house.findings()
    return house


def outcome(house, command):
    """Return ("done", what a command returns), or the name of its error and its fields."""
    try:
        return "done", called(house, command)
    except (PowerCut,) + REFUSED as error:
        return type(error).__name__, {word: getattr(error, word) for word in ("line", "name", "version", "number") if hasattr(error, word)}


def model_outcome(model, command):
    """Return the model behind a command, and the name of its error, if it has one, and its fields."""
    try:
        return model.behind(command), "done", None
    except REFUSED as error:
        return model, type(error).__name__, {word: getattr(error, word) for word in ("line", "name", "version", "number") if hasattr(error, word)}


class TestRows(unittest.TestCase):
    def check(self, house, model):
        self.assertTrue(same(values_of(house), model.values()), (values_of(house), model.values()))
        self.assertEqual(house.numbers(), sorted(model.generations))
        for mode in houses.MODES:
            self.assertTrue(same(house.case_of(mode), model.case(mode)))

    def cut_startings(self, house, chance):
        """Start a house that was cut; some startings are cut, too, and the last one is not."""
        for _ in range(chance.randint(0, 3)):
            house.power()
            house.fuse(chance.randint(0, 4), chance.choice(SIGNS))
            self.assertIn(outcome(house, ("start",))[0], ("done", "PowerCut"))
        house.power()
        house.start()
        self.assertEqual(starting(house.files()), [])

    def check_cut(self, house, command, before, behind_it):
        """Check that each value is as before a command or as behind it; return the model of what there is."""
        found, old, new = values_of(house), before.values(), behind_it.values()
        own = OWN.get(command[0])
        for key, value in found.items():
            self.assertTrue(same(value, old.get(key)) or same(value, new.get(key)), (command, key))
            if own is not None and key != own and key in old:
                self.assertTrue(same(value, old[key]), (command, key))
            if command[0] == "install" and key not in old:
                self.assertTrue(same(found["tree"], new["tree"]))
        self.assertTrue(all(key in found for key in old if key in new))
        return Model(found["registry"], found["wish"], found["tree"][0], found["tree"][1], {key: found[key] for key in found if not isinstance(key, str)})

    def test_long_rows_of_commands(self):
        seen = {}
        for seed in range(200):
            chance = random.Random(seed)
            house, model = House({"mine": "kept", "gen/gx": "", "store/c07": "x"}), Model()
            for _ in range(25):
                command, files = some_command(chance), house.files()
                if chance.random() < 0.5:
                    house.fuse(chance.choice([0, 1, 2, 3, 5, 8, 12, 16]), chance.choice(SIGNS))
                twin = house.twin()
                behind_it, word, fields = model_outcome(model, command)
                found = outcome(house, command)
                if found[0] == "PowerCut":
                    self.assertEqual(word, "done")
                    self.assertIs(house.has_power(), False)
                    self.assertIs(house == twin, False)
                    self.cut_startings(house, chance)
                    model = self.check_cut(house, command, model, behind_it)
                else:
                    self.assertEqual(found[0], word)
                    if word != "done":
                        self.assertTrue(same(found[1], fields))
                        self.assertTrue(same(house.files(), files))
                        self.assertEqual(house, twin)
                    model = behind_it
                    house.power()
                self.assertEqual([twin.files(), twin.has_power()], [files, True])
                self.check(house, model)
                key = (command[0], found[0])
                seen[key] = seen.get(key, 0) + 1
            self.assertEqual([house.files()[path] for path in ("mine", "gen/gx", "store/c07")], ["kept", "", "x"])
        self.assertTrue(all((word, "PowerCut") in seen for word in ("publish", "withdraw", "restore", "wish_for", "install", "back", "collect", "repair")), seen)
        self.assertTrue({("publish", "NoText"), ("wish_for", "NoText"), ("withdraw", "NoPack"), ("restore", "NoPack"), ("back", "NoGeneration")} <= set(seen))

    def test_deed_by_deed(self):
        for seed in range(150):
            chance = random.Random(seed)
            files = grown(seed)
            if chance.random() < 0.5:
                files.update({path: text for path, text in gens.some_disk(seed).items() if path not in files or chance.random() < 0.5})
            if chance.random() < 0.5:
                files.update({path: "half" for path in chance.sample(["registry-new", "wish-new", "log-new", "gen/new", "store/new", "log"], 2)})
            for _ in range(6):
                command = some_command(chance)
                try:
                    deeds = deeds_of(files, command)
                except REFUSED:
                    continue
                many, signs = chance.randint(0, len(deeds) + 1), chance.choice(SIGNS)
                house = House(disks.shuffled(chance, files))
                self.assertEqual(outcome(house, command)[0], "done")
                self.assertTrue(same(house.files(), disks.behind(files, deeds)), (seed, command))
                house = House(files)
                house.fuse(many, signs)
                self.assertEqual(outcome(house, command)[0], "PowerCut" if many < len(deeds) else "done")
                self.assertTrue(same(house.files(), disks.cut(files, deeds, many, signs)), (seed, command))
                self.assertEqual(list(house.files()), sorted(house.files()))
                if many >= len(deeds):
                    disk = Disk(house.files())
                    disk.fuse(many - len(deeds), signs)
                    self.assertEqual(house.disk, disk)
                files = house.files()


class TestEachCut(unittest.TestCase):
    def check(self, files, command):
        """Cut a command everywhere, and some startings behind it; check what one that is not cut makes of it."""
        deeds = deeds_of(files, command)
        before = House(files)
        whole = House(files)
        called(whole, command)
        old, new = values_of(before), values_of(whole)
        chance = random.Random(len(deeds))
        for many, signs in disks.ways_to_cut(deeds)[:-1]:
            house = House(files)
            house.fuse(many, signs)
            self.assertEqual(outcome(house, command), ("PowerCut", {}))
            for _ in range(chance.randint(0, 2)):
                house.power()
                house.fuse(chance.randint(0, 3), chance.choice(SIGNS))
                outcome(house, ("start",))
            told = values_of(house)
            house.power()
            house.start()
            # What is told ahead of the starting is what stands behind it.
            self.assertTrue(same(values_of(house), told))
            self.check_values(command, old, new, told)
            self.assertEqual(house.files()["mine"], "kept")
            self.assertEqual(starting(house.files()), [])

    def check_values(self, command, old, new, told):
        own = OWN.get(command[0], "generations")
        for key in set(old) | set(told):
            self.assertTrue(same(told.get(key), old.get(key)) or same(told.get(key), new.get(key)), (command, key))
            if key != own and isinstance(key, str):
                self.assertTrue(same(told[key], old[key]))
            if key not in old:
                self.assertEqual([command[0], told["tree"]], ["install", new["tree"]])
            if own != "generations" and key in old and not isinstance(key, str):
                self.assertTrue(same(told.get(key), old[key]))

    def test_each_command(self):
        files = ready(more=[("install", "newest")]).files()
        for command in COMMANDS:
            self.check(files, command)

    def test_on_a_house_that_was_cut(self):
        house = ready()
        house.fuse(7, 3)
        self.assertEqual(outcome(house, ("install", "newest"))[0], "PowerCut")
        files = {**house.files(), "registry-new": "pack", "wish-new": "wi", "gen/new": "en", "store/new": ""}
        self.assertTrue(disks.mend(files))
        for command in COMMANDS:
            self.check(files, command)

    def test_repairing(self):
        self.check(bent_house().files(), ("repair",))

    def test_of_grown_houses(self):
        for seed in range(12):
            files, chance = grown(seed), random.Random(seed)
            for _ in range(3):
                command = some_command(chance)
                try:
                    self.check(files, command)
                except REFUSED:
                    continue


class TestCalls(unittest.TestCase):
    def test_by_hand(self):
        house = ready()
        self.assertEqual([house.tree(), house.numbers(), house.lock_text(), house.lock()],
                         [{"lib/x": "", "run": "go"}, [0], "lock app 1.0.0\nlock lib 1.0.0", {"app": (ONE, ()), "lib": (ONE, ())}])
        found = house.install("newest")
        self.assertTrue(same(found, answer(house.case_of("newest"))))
        self.assertEqual([found[1], house.tree(), house.numbers()], [{"app": (TWO, ())}, {"run": "went"}, [0, 1]])
        self.assertEqual([house.back(0), house.tree(), house.numbers()], [None, {"lib/x": "", "run": "go"}, [0, 1]])
        self.assertEqual([house.collect((1, 5)), house.numbers(), house.tree_of_number(0), house.tree_of_number(1)], [None, [1], None, ({"run": "went"}, "lock app 2.0.0")])
        self.assertEqual([house.withdraw("app", TWO), house.registry()[1], house.withdraw("app", TWO), house.restore("app", TWO), house.registry()[1], house.restore("app", TWO)],
                         [None, (("app", TWO),), None, None, (), None])
        self.assertEqual([house.repair(), house.start(), house.findings(), house.power(), house.fuse(9, None), house.has_power()], [None, None, [], None, None, True])
        self.assertEqual([house.wish_for(""), house.wish(), house.publish(""), len(house.registry()[0])], [None, (), None, 3])

    def test_answers(self):
        house = ready()
        for wish, mode in (("wish app ; all", "newest"), ("wish app ; from 3.0.0", "oldest"), ("wish none-such ; all", "steady"), ("", "steady")):
            house.wish_for(wish)
            wanted, files = answer(house.case_of(mode)), house.files()
            found = house.twin().install(mode)
            self.assertTrue(same(found, wanted))
            spoil(found)
            house.install(mode)
            if wanted[0] == "none":
                self.assertEqual(house.files(), files)
            else:
                self.assertEqual([house.lock(), house.numbers()[-1]], [wanted[1], len(house.numbers()) - 1])

    def test_install_without_a_plan_starts(self):
        house = ready()
        house.wish_for("wish none-such ; all")
        files = {**house.files(), "registry-new": "x", "wish-new": "y", "log-new": "z"}
        other = House(files)
        self.assertEqual([other.install("newest")[0], other.files()], ["none", house.files()])
        other = House(files)
        other.fuse(2, None)
        with self.assertRaises(PowerCut):
            other.install("newest")
        self.assertEqual(sorted(set(files) - set(other.files())), ["log-new", "registry-new"])

    def test_published_over(self):
        house = ready()
        house.withdraw("app", ONE)
        house.withdraw("lib", ONE)
        house.publish("pack app 1.0.0\nfile run : new\npack zip 1.0.0\nwithdrawn zip 1.0.0")
        (packs, withdrawn), text = house.registry(), house.files()["registry"]
        self.assertEqual([pack[:2] for pack in packs], [("app", ONE), ("app", TWO), ("lib", ONE), ("zip", ONE)])
        self.assertEqual([withdrawn, packs[0][7], text.split("\n")[-1]], [(("lib", ONE), ("zip", ONE)), (("run", "new"),), "withdrawn zip 1.0.0"])

    def test_texts_that_cannot_be_read(self):
        for registry in ("pack", "pack a 1.0.0\nwish a ; all", "x"):
            house = House({"registry": registry, "wish": "wish", "lock": "lock a", "tree/a": "y"})
            self.assertEqual([house.registry(), house.wish(), house.lock_text(), house.lock(), house.tree()], [((), ()), (), "lock a", {}, {"a": "y"}])
            self.assertEqual(house.case_of("oldest"), (((), ()), (), {}, "oldest"))
            house.publish("pack b 1.0.0")
            self.assertEqual([house.files()["registry"], house.files()["wish"]], ["pack b 1.0.0", "wish"])
        house = House({"registry": "  pack  b 1.0.0 \n# more", "wish": "wish b;all", "lock": "lock b 1.0.0 ; with f"})
        self.assertEqual([house.registry()[0][0][:2], house.wish()[0][0], house.lock()], [("b", ONE), "b", {"b": (ONE, ("f",))}])
        empty = House({})
        self.assertEqual([empty.registry(), empty.wish(), empty.tree(), empty.lock_text(), empty.lock(), empty.numbers(), empty.findings(), empty.tree_of_number(0), empty.files()],
                         [((), ()), (), {}, None, {}, [], [], None, {}])

    def test_told_of_what_stands_behind_a_starting(self):
        for seed in range(200):
            files = {**grown(seed % 20), **gens.some_disk(seed)}
            house = House(files)
            calm = disks.behind(files, starting(files))
            told = values_of(house)
            self.assertTrue(same(told, values_of(House(calm))))
            self.assertEqual([told["tree"], house.lock()], [disks.meant(files), houses.lock_on(files)])
            self.assertTrue(same(house.numbers(), sorted(gens.trees(calm))))
            self.assertTrue(same(house.findings(), look_over(calm, house.registry())))
            for call in (house.registry, house.wish, house.tree, house.lock, house.lock_text, house.numbers, house.findings, house.files, house.has_power):
                calls_alike(self, call)
            self.assertEqual([house.files(), house.tree_of_number(-1)], [files, None])
            self.assertEqual([list(house.tree()), list(house.lock())], [sorted(house.tree()), sorted(house.lock())])
            for number in house.numbers():
                self.assertTrue(same(calls_alike(self, house.tree_of_number, number), gens.trees(calm)[number]))


class TestErrors(unittest.TestCase):
    def test_nothing_changes(self):
        files = {**ready().files(), "log": "log 0\nlock store/c0", "log-new": "", "registry-new": "", "wish-new": ""}
        told = [(("publish", "pack"), NoText, "line", 0), (("publish", TEXT + "\nx"), NoText, "line", 7), (("wish_for", "wish a ; all\npack a 1.0.0"), NoText, "line", 1),
                (("withdraw", "app", (9, 9, 9)), NoPack, "version", (9, 9, 9)), (("restore", "zip", ONE), NoPack, "name", "zip"),
                (("back", 1), NoGeneration, "number", 1), (("back", -1), NoGeneration, "number", -1), (("back", 10 ** 30), NoGeneration, "number", 10 ** 30)]
        for command, kind, field, value in told:
            house = House(files)
            house.fuse(0, 0)
            twin = house.twin()
            with self.assertRaises(kind) as caught:
                called(house, command)
            self.assertTrue(same(getattr(caught.exception, field), value))
            self.assertEqual([house.files(), house == twin, house.has_power()], [files, True, True])
            self.assertIs(type(caught.exception), kind)

    def test_without_power(self):
        house = ready()
        files = {**house.files(), "log-new": ""}
        house = House(files)
        house.fuse(0, None)
        with self.assertRaises(PowerCut):
            house.start()
        told = values_of(house)
        for command in COMMANDS + [("publish", "pack"), ("withdraw", "none-such", ONE), ("restore", "none-such", ONE), ("wish_for", "x"), ("back", 99), ("collect", (7,))]:
            with self.assertRaises(PowerCut):
                called(house, command)
            self.assertEqual([house.files(), house.has_power()], [files, False])
        for command in (("publish", None), ("wish_for", 1), ("publish", ["x"]), ("wish_for", ())):
            with self.assertRaises(Wrong) as caught:
                called(house, command)
            self.assertTrue(same(caught.exception.place, 0))
        house.fuse(5, None)
        self.assertTrue(same(values_of(house), told))
        self.assertEqual([house.power(), house.start(), house.files()], [None, None, {path: files[path] for path in files if path != "log-new"}])

    def test_wrong(self):
        files = {"mine": "kept", "registry": ""}
        for thing in values() + bent(files) + [House({}), Disk({})]:
            good = type(thing) is dict and all(
                type(path) is str and disks.re.fullmatch(disks.PATH, path) and type(content) is str for path, content in thing.items())
            if good:
                self.assertTrue(same(House(thing).files(), thing))
            else:
                with self.assertRaises(Wrong) as caught:
                    House(thing)
                self.assertTrue(same(caught.exception.place, 0))
        house = House(files)
        for thing in [value for value in values() if not isinstance(value, str)]:
            for call in (house.publish, house.wish_for):
                with self.assertRaises(Wrong) as caught:
                    call(thing)
                self.assertTrue(same(caught.exception.place, 0))
        for text in [value for value in values() if isinstance(value, str) and value.strip(" \n")]:
            for call in (house.publish, house.wish_for):
                with self.assertRaises(NoText):
                    call(text)
        self.assertEqual(house.files(), files)


class TestTwins(unittest.TestCase):
    def test_twins(self):
        house = ready()
        twin = house.twin()
        self.assertIs(house == twin, True)
        twin.install("newest")
        self.assertIs(house == twin, False)
        self.assertEqual([house.numbers(), twin.numbers()], [[0], [0, 1]])
        house.install("newest")
        self.assertIs(house == twin, True)
        house.fuse(3, None)
        self.assertIs(house == twin, False)
        self.assertIs(house == house.twin(), True)
        twin.fuse(3, None)
        self.assertIs(house == twin, True)
        self.assertEqual([outcome(one, ("repair",))[0] for one in (house, twin)], ["done", "done"])
        house.publish("")
        self.assertEqual(outcome(house, ("publish", ""))[0], "PowerCut")
        self.assertEqual([twin.has_power(), house.twin().has_power(), house == house.twin(), house == twin], [True, False, True, False])

    def test_beside_other_things(self):
        class Other:
            pass
        house = House({})
        for thing in values() + [Other(), Disk({}), {}, house.disk]:
            self.assertIs(house == thing, False)
            self.assertIs(thing == house, False)
            self.assertIs(house != thing, True)
        self.assertIs(house == House({"a": ""}), False)

    def test_files_are_its_own(self):
        files = {"mine": "kept"}
        house = House(files)
        files["other"] = "x"
        house.files()["other"] = "y"
        self.assertEqual(house.files(), {"mine": "kept"})


if __name__ == "__main__":
    unittest.main()
