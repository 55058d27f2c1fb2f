"""[38]: the store, against own counting of shelves."""

import random
import unittest

from packsworn.disk import after, all_cuts
from packsworn.store import keeping, kept, unshelving
from tests import disks
from tests.kinds import calls_alike, same

GREATEST = 10 ** 19 - 1


def some_contents(chance):
    return [chance.choice(disks.CONTENTS + ["new", "lock a 1.0.0"]) for _ in range(chance.randint(0, 6))]


class TestKept(unittest.TestCase):
    def test_against_counting(self):
        for seed in range(500):
            files = disks.some_disk(seed)
            found = calls_alike(self, kept, files)
            self.assertEqual(found, {content: disks.shelf_with(files, content) for content in disks.on_shelves(files)})
            self.assertEqual(list(found), sorted(found))

    def test_paths_near_shelves(self):
        files = {path: path for path in disks.NEAR}
        self.assertEqual(kept(files), {})
        self.assertEqual(keeping(files, ["x"])[1], ("move", "store/new", "store/c0"))

    def test_figures(self):
        for number in (0, 1, 9, 10, 19, 100, 10 ** 18, GREATEST):
            self.assertEqual(kept({f"store/c{number}": "x"}), {"x": f"store/c{number}"})
        self.assertEqual(kept({"store/new": "x", "store/c00": "y", "store/c1-": "z", "store/c1/c1": "q"}), {})

    def test_least_of_several(self):
        files = {"store/c10": "x", "store/c9": "x", "store/c100": "x", "store/c11": "", "store/c2": "y"}
        self.assertEqual(kept(files), {"": "store/c11", "x": "store/c9", "y": "store/c2"})


class TestKeeping(unittest.TestCase):
    def test_against_counting(self):
        for seed in range(500):
            files, contents = disks.some_disk(seed), some_contents(random.Random(seed))
            found = calls_alike(self, keeping, files, contents)
            self.assertTrue(same(found, disks.kept_now(files, contents)))
            self.assertTrue(same(keeping(files, tuple(contents)), found))
            self.assertTrue(set(contents) <= set(kept(after(files, found))))
            for left in all_cuts(files, found):
                # What stands on a shelf is whole at any moment.
                self.assertTrue(disks.on_shelves(files) <= disks.on_shelves(left) <= disks.on_shelves(files) | set(contents))

    def test_by_hand(self):
        self.assertEqual([keeping({}, []), keeping({"store/c0": ""}, ["", ""]), keeping({"store/new": "x"}, [])], [[], [], []])
        files = {"store/c0": "x", "store/c2": "y", "store/c3": "x", "store/new": "half"}
        self.assertEqual(keeping(files, ["", "z", "x", "", "q"]), [
            ("put", "store/new", ""), ("move", "store/new", "store/c1"), ("put", "store/new", "z"), ("move", "store/new", "store/c4"),
            ("put", "store/new", "q"), ("move", "store/new", "store/c5")])
        many = {f"store/c{number}": str(number) for number in range(12)}
        self.assertEqual(keeping(many, ["x"]), [("put", "store/new", "x"), ("move", "store/new", "store/c12")])


class TestUnshelving(unittest.TestCase):
    def test_against_counting(self):
        for seed in range(500):
            files, contents = disks.some_disk(seed), some_contents(random.Random(seed))
            found = calls_alike(self, unshelving, files, contents)
            drops = [("drop", f"store/c{number}") for number, held in disks.numbered(files, "store/c").items() if held not in contents]
            self.assertTrue(same(found, drops + [("drop", "store/new")] * ("store/new" in files)))
            self.assertTrue(same(unshelving(files, tuple(contents)), found))
            self.assertEqual(disks.on_shelves(after(files, found)), disks.on_shelves(files) & set(contents))

    def test_by_hand(self):
        files = {"store/c10": "x", "store/c9": "y", "store/c2": "x", "store/c01": "x", "store/new": "x", "mine": "x"}
        self.assertEqual(unshelving(files, ["y", "z"]), [("drop", "store/c2"), ("drop", "store/c10"), ("drop", "store/new")])
        self.assertEqual(unshelving(files, []), [("drop", "store/c2"), ("drop", "store/c9"), ("drop", "store/c10"), ("drop", "store/new")])
        self.assertEqual([unshelving({"store/c0": ""}, [""]), unshelving({"store/c0": ""}, [])], [[], [("drop", "store/c0")]])


if __name__ == "__main__":
    unittest.main()
