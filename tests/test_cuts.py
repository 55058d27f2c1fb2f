"""[42] and [9]: wherever an installing is cut, and wherever mendings behind it are cut, the tree is wholly old or new."""

import random
import unittest

from packsworn.cuts import install_cut, is_behind, mended, mended_after
from packsworn.disk import after, all_cuts
from packsworn.installer import install_deeds, meant, mend_deeds
from tests import disks
from tests.kinds import calls_alike, same
from tests.samples import ONE, TWO
from tests.small import pack, rows

LOG_MOVE = ("move", "log-new", "log")


def beside(files):
    """Return what no installing may touch."""
    return {path: files[path] for path in files if path not in ("log", "log-new", "lock") and not path.startswith(("tree/", "store/"))}


def some_cuts(chance, files, most):
    """Return a list of cuts of mendings, one behind the other, and what they leave."""
    cuts = []
    for _ in range(chance.randint(1, most)):
        many, signs = chance.choice(disks.ways_to_cut(disks.mend(files)) + [(99, 3)])
        cuts.append((many, signs))
        files = disks.cut(files, disks.mend(files), many, signs)
    return cuts, files


def all_behind(lefts):
    """Return all that mendings can leave that are cut anywhere, one behind the other, where one of some files stands."""
    row, seen = list(lefts), set()
    for files in row:
        key = frozenset(files.items())
        if key not in seen:
            seen.add(key)
            row.extend(all_cuts(files, mend_deeds(files)))
    return [dict(key) for key in seen]


class TestEachCut(unittest.TestCase):
    def check_left(self, left, start, wanted):
        """Check what a mending makes of what cuts have left."""
        done = mended(left)
        self.assertEqual((disks.tree(done), done.get("lock")), wanted)
        self.assertEqual(meant(left), wanted)
        self.assertEqual(beside(done), beside(start))
        self.assertTrue(disks.on_shelves(start) <= disks.on_shelves(done))
        self.assertEqual([mend_deeds(done), mended(done)], [[], done])
        self.assertTrue("log" not in done and "log-new" not in done)

    def check(self, files, registry, plan, chance):
        """Check all cuts of an installing, and behind each of them all rows of mendings that are cut, however many."""
        deeds = install_deeds(files, registry, plan)
        place = deeds.index(LOG_MOVE)
        old, new = disks.meant(files), (disks.tree_of(registry, plan), disks.show_lock(plan))
        ways, lefts = disks.ways_to_cut(deeds), all_cuts(files, deeds)
        self.assertEqual(len(ways), len(lefts))
        for is_new, wanted in ((False, old), (True, new)):
            told = [left for (many, _), left in zip(ways, lefts) if (many > place) is is_new]
            for left in all_behind(told):
                self.check_left(left, files, wanted)
            for left in told:
                cuts, last = some_cuts(chance, left, 3)
                self.assertEqual([mended_after(left, cuts), mended(last)], [mended(left)] * 2)
        return old != new

    def test_on_disks_of_chance(self):
        many = 0
        for seed in range(30):
            chance = random.Random(seed)
            registry = disks.some_registry(chance)
            many += self.check(disks.some_disk(seed), registry, disks.some_plan(chance, registry), chance)
        self.assertGreater(many, 20)

    def test_from_plan_to_plan(self):
        chance, many = random.Random(0), 0
        for case, plans, _ in rows():
            plans = [plan for plan in plans if disks.tree_of(case[0], plan)]
            if len(plans) > 1 and max(len(content) for one in case[0][0] for _, content in one[7]) < 50:
                files = after({"mine": "kept"}, install_deeds({}, case[0], plans[0]))
                many += self.check(files, case[0], plans[-1], chance)
        self.assertGreater(many, 3)

    def test_by_hand(self):
        registry = (pack("a", files=(("p", "old"), ("q", "same"), ("r", "gone"))), pack("a", TWO, files=(("p", "new"), ("q", "same"), ("r/s", "")))), ()
        first = after({"mine": "kept"}, install_deeds({}, registry, {"a": (ONE, ())}))
        chance = random.Random(0)
        for plan in ({"a": (TWO, ("f",))}, {}, {"a": (ONE, ())}):
            self.check(first, registry, plan, chance)
        # A store that has both, and one that has neither.
        both = after(first, install_deeds(first, registry, {"a": (TWO, ())}))
        self.check(both, registry, {"a": (ONE, ())}, chance)
        self.check({path: both[path] for path in both if not path.startswith("store/")}, registry, {"a": (ONE, ())}, chance)


class TestCalls(unittest.TestCase):
    def test_install_cut(self):
        for seed in range(60):
            files, chance = disks.some_disk(seed), random.Random(seed)
            registry = disks.some_registry(chance)
            plan = disks.some_plan(chance, registry)
            deeds = disks.install(files, registry, plan)
            for many in range(len(deeds) + 2):
                signs = chance.choice([None, 0, 1, 2, 50])
                found = calls_alike(self, install_cut, files, registry, plan, many, signs)
                self.assertTrue(same(found, disks.cut(files, deeds, many, signs)))
                self.assertEqual(list(found), sorted(found))
                self.assertIs(is_behind(files, registry, plan, many), LOG_MOVE in deeds[:many])

    def test_is_behind(self):
        registry = ((pack("a", files=(("p", "x"),)),), ())
        files = {"log": "log 0\nlock store/c0", "store/c0": "x", "log-new": ""}
        told = [calls_alike(self, is_behind, files, registry, {"a": (ONE, ())}, many) for many in range(12)]
        # Three deeds mend, two keep the lock, two write the log.
        self.assertEqual(told, [False] * 7 + [True] * 5)
        self.assertIs(is_behind({}, ((), ()), {}, 3), False)
        self.assertIs(is_behind({}, ((), ()), {}, 4), True)
        self.assertIs(is_behind({}, ((), ()), {}, 10 ** 30), True)

    def test_mended(self):
        for seed in range(300):
            files = disks.some_disk(seed)
            found = calls_alike(self, mended, files)
            self.assertEqual(found, disks.mended(files))
            self.assertEqual(list(found), sorted(found))
            self.assertTrue(same(mended_after(files, []), found))

    def test_mended_after(self):
        for seed in range(300):
            files, chance = disks.some_disk(seed), random.Random(seed)
            cuts, last = some_cuts(chance, files, 4)
            self.assertTrue(same(calls_alike(self, mended_after, files, cuts), disks.mended(last)))
            self.assertTrue(same(mended_after(files, tuple(cuts)), disks.mended(last)))
            self.assertEqual(mended_after(files, cuts), mended(files))


if __name__ == "__main__":
    unittest.main()
