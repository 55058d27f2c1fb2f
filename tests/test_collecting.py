"""[44]: collecting, deed by deed and wherever it is cut, and shelves that are spare."""

import random
import unittest

from packsworn.collecting import collect_deeds, spare_shelves
from packsworn.disk import after, all_cuts
from packsworn.installer import meant, mend_deeds
from tests import gens
from tests.kinds import calls_alike, same
from tests.test_cuts import beside, some_cuts

NUMBERS = [-1, 0, 1, 2, 3, 7, 9, 10, 12, 99, 10 ** 18]


def some_numbers(chance):
    return tuple(sorted(chance.sample(NUMBERS, chance.choice([0, 1, 2, 4, 8]))))


class TestCollecting(unittest.TestCase):
    def test_deed_by_deed(self):
        many = 0
        for seed in range(500):
            files, numbers = gens.some_disk(seed), some_numbers(random.Random(seed))
            found = calls_alike(self, collect_deeds, files, numbers)
            self.assertTrue(same(found, gens.collect(files, numbers)), seed)
            done = after(files, found)
            left = [number for number in gens.manifests(files) if number in numbers]
            self.assertEqual(list(gens.manifests(done)), left)
            self.assertEqual(gens.trees(done), {number: tree for number, tree in gens.trees(files).items() if number in numbers})
            self.assertEqual([spare_shelves(done), collect_deeds(done, numbers)], [[], []])
            self.assertEqual(meant(done), meant(files))
            many += len(gens.trees(done)) > 0
        self.assertGreater(many, 50)

    def test_by_hand(self):
        files = {"gen/g2": "entries 2\na store/c10\nb store/c2\nlock store/c2", "gen/g10": "entries 1\na store/c9\nlock store/c2", "gen/g3": "none",
                 "gen/g4": "entries 1\na store/c11\nlock -", "gen/new": "half", "store/new": "half", "log-new": "",
                 "store/c2": "x", "store/c9": "y", "store/c10": "", "store/c100": "x", "gen/g01": "mine", "store/cx": "mine"}
        self.assertEqual(collect_deeds(files, ()), [
            ("drop", "log-new"), ("drop", "gen/g2"), ("drop", "gen/g3"), ("drop", "gen/g4"), ("drop", "gen/g10"), ("drop", "gen/new"), ("drop", "store/c2"),
            ("drop", "store/c9"), ("drop", "store/c10"), ("drop", "store/c100"), ("drop", "store/new")])
        self.assertEqual(collect_deeds(files, (-5, 3, 10, 77)), [
            ("drop", "log-new"), ("drop", "gen/g2"), ("drop", "gen/g4"), ("drop", "gen/new"), ("drop", "store/c10"), ("drop", "store/c100"), ("drop", "store/new")])
        # A shelf that several generations name stays as long as one of them does.
        self.assertNotIn(("drop", "store/c2"), collect_deeds(files, (2,)))
        self.assertEqual(collect_deeds(files, (2, 3, 4, 10)), [("drop", "log-new"), ("drop", "gen/new"), ("drop", "store/c100"), ("drop", "store/new")])
        self.assertEqual([collect_deeds({}, ()), collect_deeds({}, (0, 1)), collect_deeds({"gen/g-1": ""}, (-1,)), collect_deeds({"gen/g-1": ""}, ())], [[]] * 4)
        # A generation that is not sound is kept, too, and what it names.
        self.assertEqual(collect_deeds({"gen/g0": "entries 1\na store/c5\nlock store/c0", "store/c0": "x", "store/c1": ""}, (0,)), [("drop", "store/c1")])

    def test_with_a_log(self):
        files = {"log": "log 1\nput a store/c0\nlock store/c1", "store/c0": "x", "store/c1": "y"}
        self.assertEqual(collect_deeds(files, ()), [("put", "tree/a", "x"), ("put", "lock", "y"), ("drop", "log"), ("drop", "store/c0"), ("drop", "store/c1")])

    def test_all_cuts(self):
        for seed in range(120):
            files, chance = gens.some_disk(seed), random.Random(seed)
            numbers = some_numbers(chance)
            deeds = collect_deeds(files, numbers)
            wanted = {number: tree for number, tree in gens.trees(files).items() if number in numbers}
            for left in all_cuts(files, deeds):
                _, last = some_cuts(chance, left, 3)
                for here in (left, last):
                    done = after(here, mend_deeds(here))
                    self.assertEqual([meant(here), meant(done), mend_deeds(done)], [meant(files), meant(files), []])
                    found = gens.trees(done)
                    self.assertEqual({number: found.get(number) for number in wanted}, wanted)
                    gone = set(beside(files)) - set(beside(done))
                    self.assertTrue(gone <= {"gen/new"} | {f"gen/g{number}" for number in gens.manifests(files) if number not in numbers})
                    self.assertEqual(beside(done), {path: text for path, text in beside(files).items() if path not in gone})


class TestSpareShelves(unittest.TestCase):
    def test_against_own_reading(self):
        many = 0
        for seed in range(500):
            files = gens.some_disk(seed)
            found = calls_alike(self, spare_shelves, files)
            self.assertTrue(same(found, gens.spare(files)))
            many += bool(found)
        self.assertGreater(many, 100)

    def test_by_hand(self):
        files = {f"store/c{number}": "" for number in (0, 1, 2, 3, 10, 9, 100)}
        files.update({"gen/g0": "entries 1\na store/c1\nlock store/c77", "gen/g1": "entries 0\nlock store/c3 ", "log": "log 1\nput a store/c9\nlock store/c100",
                      "store/new": "", "store/c01": ""})
        self.assertEqual(spare_shelves(files), ["store/c0", "store/c2", "store/c3", "store/c10"])
        self.assertEqual(spare_shelves({**files, "log": "log 1"}), ["store/c0", "store/c2", "store/c3", "store/c9", "store/c10", "store/c100"])
        self.assertEqual(spare_shelves({**files, "log": "log 1\nput a store/c55\nlock store/c100"}), ["store/c0", "store/c2", "store/c3", "store/c9", "store/c10"])
        self.assertEqual(spare_shelves({}), [])


if __name__ == "__main__":
    unittest.main()
