"""[37]: disks, deed by deed, against dicts that are led slowly."""

import itertools
import random
import unittest

from packsworn.disk import Disk, after, all_cuts, cut
from packsworn.errors import PackError, PowerCut, Wrong
from tests import disks
from tests.kinds import bent, calls_alike, same, values

FILES = {"b": "xy", "a": "", "a/b": "z"}
SIGNS = [None, 0, 1, 2, 3, 9]


class SlowDisk:
    """A disk that is led deed by deed."""

    def __init__(self, files):
        self.files, self.powered, self.left, self.signs = dict(files), True, None, None

    def do(self, deeds):
        """Do some deeds; return whether power is there all the time."""
        if not self.powered:
            return False
        for deed in deeds:
            if self.left == 0:
                self.files = disks.cut(self.files, [deed], 0, self.signs)
                self.powered, self.left, self.signs = False, None, None
                return False
            self.files = disks.done(self.files, deed)
            self.left = self.left and self.left - 1
        return True

    def fuse(self, many, signs):
        if self.powered:
            self.left, self.signs = many, signs

    def power(self):
        self.powered, self.left, self.signs = True, None, None

    def twin(self):
        other = SlowDisk(self.files)
        other.powered, other.left, other.signs = self.powered, self.left, self.signs
        return other

    def state(self):
        return self.files, self.powered, self.left, self.signs


def some_files(chance):
    return disks.shuffled(chance, {path: chance.choice(disks.CONTENTS) for path in chance.sample(disks.PATHS, chance.randint(0, 4))})


class TestDeeds(unittest.TestCase):
    def check(self, found, wanted):
        self.assertTrue(same(found, wanted), (found, wanted))
        self.assertEqual(list(found), sorted(found))

    def test_after(self):
        for seed in range(400):
            chance = random.Random(seed)
            files, deeds = some_files(chance), disks.some_deeds(chance, 6)
            self.check(calls_alike(self, after, files, deeds), disks.behind(files, deeds))
            self.check(calls_alike(self, after, files, tuple(deeds)), disks.behind(files, deeds))

    def test_each_deed_on_each_disk(self):
        deeds = [("put", "a", ""), ("put", "b", "n"), ("put", "new", "n"), ("drop", "a"), ("drop", "new")]
        deeds += [("move", one, other) for one, other in itertools.product(["a", "b", "new", "newer"], repeat=2)]
        for many in range(4):
            for paths in itertools.combinations(sorted(FILES), many):
                files = {path: FILES[path] for path in reversed(paths)}
                for deed in deeds:
                    self.check(calls_alike(self, after, files, [deed]), disks.done(files, deed))

    def test_after_by_hand(self):
        told = [([], FILES), ([("put", "a", "")], FILES), ([("drop", "c")], FILES), ([("move", "c", "a")], FILES), ([("move", "b", "b")], FILES),
                ([("move", "b", "a")], {"a": "xy", "a/b": "z"}), ([("move", "b", "a"), ("move", "a", "b")], {"a/b": "z", "b": "xy"}),
                ([("drop", "b"), ("move", "b", "a")], {"a": "", "a/b": "z"}), ([("put", "a/b", "q"), ("put", "a/b", "")], {"a": "", "a/b": "", "b": "xy"}),
                ([("drop", "a")], {"a/b": "z", "b": "xy"}), ([("move", "a/b", "c"), ("drop", "a"), ("drop", "b")], {"c": "z"})]
        for deeds, wanted in told:
            self.check(after(FILES, deeds), wanted)

    def test_cut(self):
        for seed in range(300):
            chance = random.Random(seed)
            files, deeds = some_files(chance), disks.some_deeds(chance, 5)
            for many in range(len(deeds) + 3):
                for signs in SIGNS:
                    self.check(calls_alike(self, cut, files, deeds, many, signs), disks.cut(files, deeds, many, signs))
            self.check(cut(files, tuple(deeds), 1, 1), disks.cut(files, deeds, 1, 1))

    def test_cut_by_hand(self):
        deeds = [("put", "b", "long"), ("move", "b", "a"), ("put", "c", ""), ("drop", "a")]
        told = {(0, None): FILES, (0, 0): {**FILES, "b": ""}, (0, 1): {**FILES, "b": "l"}, (0, 3): {**FILES, "b": "lon"},
                (0, 4): {**FILES, "b": "long"}, (0, 5): {**FILES, "b": "long"}, (1, None): {**FILES, "b": "long"}, (1, 2): {**FILES, "b": "long"},
                (2, None): {"a": "long", "a/b": "z"}, (2, 0): {"a": "long", "a/b": "z", "c": ""}, (3, 0): {"a": "long", "a/b": "z", "c": ""},
                (4, None): {"a/b": "z", "c": ""}, (4, 0): {"a/b": "z", "c": ""}, (99, 7): {"a/b": "z", "c": ""}}
        for (many, signs), wanted in told.items():
            self.check(cut(FILES, deeds, many, signs), wanted)

    def test_all_cuts(self):
        for seed in range(300):
            chance = random.Random(seed)
            files, deeds = some_files(chance), disks.some_deeds(chance, 5)
            found = calls_alike(self, all_cuts, files, deeds)
            self.assertTrue(same(found, [disks.cut(files, deeds, many, signs) for many, signs in disks.ways_to_cut(deeds)]))
            self.assertTrue(all(list(part) == sorted(part) for part in found))
            self.assertTrue(same(all_cuts(files, tuple(deeds)), found))
            self.assertEqual(len({id(part) for part in found}), len(found))

    def test_all_cuts_by_hand(self):
        self.assertEqual(all_cuts({"a": "q"}, []), [{"a": "q"}])
        self.assertEqual(all_cuts({}, [("put", "a", "")]), [{}, {"a": ""}])
        self.assertEqual(all_cuts({"a": "q"}, [("put", "a", "xy"), ("drop", "a")]), [{"a": "q"}, {"a": ""}, {"a": "x"}, {"a": "xy"}, {}])


class TestDisk(unittest.TestCase):
    def check(self, disk, slow):
        found = disk.files()
        self.assertTrue(same(found, slow.files))
        self.assertEqual(list(found), sorted(found))
        self.assertIs(disk.has_power(), slow.powered)

    def do(self, disk, slow, deeds):
        before = list(deeds)
        try:
            self.assertIsNone(disk.do(deeds))
            told = True
        except PowerCut as error:
            self.assertEqual(type(error).__mro__[1:3], (PackError, ValueError))
            told = False
        self.assertEqual(list(deeds), before)
        self.assertIs(told, slow.do(deeds))

    def test_long_rows_of_calls(self):
        for seed in range(150):
            chance = random.Random(seed)
            files = some_files(chance)
            pairs = [(Disk(files), SlowDisk(files))]
            for _ in range(60):
                disk, slow = chance.choice(pairs)
                word = chance.choice(["do", "do", "do", "fuse", "power", "twin", "spoil"])
                if word == "do":
                    deeds = disks.some_deeds(chance, 4)
                    self.do(disk, slow, tuple(deeds) if chance.random() < 0.5 else deeds)
                elif word == "fuse":
                    many, signs = chance.randint(0, 6), chance.choice(SIGNS)
                    self.assertIsNone(disk.fuse(many, signs))
                    slow.fuse(many, signs)
                elif word == "power" and (not slow.powered or chance.random() < 0.3):
                    self.assertIsNone(disk.power())
                    slow.power()
                elif word == "twin" and len(pairs) < 4:
                    pairs.append((disk.twin(), slow.twin()))
                elif word == "spoil":
                    disk.files()["spoilt"] = "x"
                for one, its in pairs:
                    self.check(one, its)
                    for other, other_its in pairs:
                        self.assertIs(one == other, same(its.state(), other_its.state()))
                        self.assertIs(one != other, not same(its.state(), other_its.state()))

    def test_new_ones(self):
        files = {"b": "x", "a": "y"}
        disk = Disk(files)
        files["c"] = "z"
        self.assertEqual([disk.files(), list(disk.files()), disk.has_power()], [{"a": "y", "b": "x"}, ["a", "b"], True])
        self.assertEqual(disk, Disk({"a": "y", "b": "x"}))

    def test_fuse(self):
        disk = Disk({})
        disk.fuse(2, None)
        disk.do([("put", "a", "x"), ("put", "b", "y")])
        self.assertTrue(disk.has_power())
        disk.do([])
        with self.assertRaises(PowerCut):
            disk.do([("put", "c", "z"), ("put", "d", "z")])
        self.assertEqual([disk.files(), disk.has_power()], [{"a": "x", "b": "y"}, False])
        for deeds in ([], (), [("drop", "a")]):
            with self.assertRaises(PowerCut):
                disk.do(deeds)
        self.assertEqual(disk.files(), {"a": "x", "b": "y"})

    def test_fuse_amid_puts(self):
        for signs, wanted in ((None, {"a": "x"}), (0, {"a": ""}), (1, {"a": "l"}), (3, {"a": "lon"}), (4, {"a": "long"}), (5, {"a": "long"})):
            disk = Disk({"a": "x"})
            disk.fuse(0, signs)
            with self.assertRaises(PowerCut):
                disk.do([("put", "a", "long"), ("put", "b", "never")])
            self.assertEqual(disk.files(), wanted)
        disk = Disk({"a": "x"})
        disk.fuse(0, 1)
        with self.assertRaises(PowerCut):
            disk.do([("move", "a", "b")])
        self.assertEqual(disk.files(), {"a": "x"})

    def test_fuses_in_the_place_of_others(self):
        disk = Disk({})
        disk.fuse(0, None)
        disk.fuse(1, 1)
        disk.do([("put", "a", "x")])
        with self.assertRaises(PowerCut):
            disk.do([("put", "a", "yz")])
        self.assertEqual(disk.files(), {"a": "y"})
        disk.fuse(0, None)
        disk.power()
        disk.do([("drop", "a")])
        disk.fuse(0, None)
        disk.power()
        disk.do([("put", "b", "")])
        self.assertEqual([disk.files(), disk.has_power()], [{"b": ""}, True])

    def test_equal(self):
        def fused(many, signs):
            disk = Disk(FILES)
            disk.fuse(many, signs)
            return disk
        disk = Disk(FILES)
        self.assertIs(disk == Disk(dict(reversed(list(FILES.items())))), True)
        for other in (fused(1, None), fused(0, None), Disk({}), Disk({**FILES, "b": "x"})):
            self.assertIs(disk == other, False)
        self.assertIs(fused(1, 0) == fused(1, 0), True)
        for other in (fused(1, None), fused(1, 1), fused(2, 0)):
            self.assertIs(fused(1, 0) == other, False)
        spent = fused(2, 0)
        spent.do([("drop", "none")])
        self.assertIs(fused(1, 0) == spent, True)
        dark, other = fused(0, None), fused(0, 3)
        for one in (dark, other):
            with self.assertRaises(PowerCut):
                one.do([("drop", "a")])
        self.assertIs(dark == other, True)
        self.assertIs(dark == disk, False)
        other.fuse(3, None)
        self.assertIs(dark == other, True)
        dark.power()
        self.assertIs(dark == disk, True)

    def test_beside_other_things(self):
        class Other:
            pass
        disk = Disk({})
        for thing in values() + [Other(), FILES, {}]:
            self.assertIs(disk == thing, False)
            self.assertIs(thing == disk, False)
            self.assertIs(disk != thing, True)

    def test_wrong(self):
        for thing in values() + bent(FILES) + [Disk({}), {"a/": ""}, {"/a": ""}, {"A": ""}, {"a": None}, {"a": b"x"}, {"a": ["x"]},
                                               {("a",): "x"}, {"a//b": ""}, {"a" * 21: ""}, [("a", "x")]]:
            good = type(thing) is dict and all(
                type(path) is str and disks.re.fullmatch(disks.PATH, path) and type(content) is str for path, content in thing.items())
            if good:
                self.assertTrue(same(Disk(thing).files(), thing))
            else:
                with self.assertRaises(Wrong) as caught:
                    Disk(thing)
                self.assertTrue(same(caught.exception.place, 0))

    def test_large(self):
        files = {f"p/n{at}": "x" * 6000 for at in range(80)}
        disk = Disk(files)
        self.assertTrue(same(disk.files(), files))
        disk.do([("put", f"p/n{at}", "y" * 6000) for at in range(80)])
        self.assertEqual(set(disk.files().values()), {"y" * 6000})


if __name__ == "__main__":
    unittest.main()
