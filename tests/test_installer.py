"""[41]: installing and mending, deed by deed against the words of the document."""

import random
import unittest

from packsworn.disk import after
from packsworn.installer import install_deeds, is_calm, meant, mend_deeds
from tests import disks
from tests.kinds import calls_alike, same
from tests.samples import ONE, TWO
from tests.small import pack, rows

REGISTRY = ((pack("app", files=(("bin/run", "go"), ("doc", ""), ("same", "go"))), pack("app", TWO, files=(("bin/run", "went"),)),
             pack("lib", files=(("lib", "go"),))), ())
OLD = {"app": (ONE, ())}
FIRST = after({}, install_deeds({}, REGISTRY, OLD))


class TestInstallDeeds(unittest.TestCase):
    def test_deed_by_deed(self):
        seen = {True: 0, False: 0}
        for seed in range(400):
            files, chance = disks.some_disk(seed), random.Random(seed)
            registry = disks.some_registry(chance)
            plan = disks.some_plan(chance, registry)
            found = calls_alike(self, install_deeds, files, registry, plan)
            self.assertTrue(same(found, disks.install(files, registry, plan)), seed)
            seen[bool(disks.mend(files))] += 1
            done = after(files, found)
            self.assertEqual((disks.tree(done), done["lock"]), (disks.tree_of(registry, plan), disks.show_lock(plan)))
            self.assertTrue(same(calls_alike(self, meant, done), (disks.tree_of(registry, plan), disks.show_lock(plan))))
        self.assertGreater(min(seen.values()), 50)

    def test_from_plan_to_plan(self):
        many = 0
        for case, plans, _ in rows():
            files = {"mine": "kept", "tree/old": "x"}
            for plan in plans[:4]:
                found = install_deeds(files, case[0], plan)
                self.assertTrue(same(found, disks.install(files, case[0], plan)))
                files = after(files, found)
                self.assertEqual(meant(files), (disks.tree_of(case[0], plan), disks.show_lock(plan)))
                many += 1
        self.assertGreater(many, 150)

    def test_by_hand(self):
        text = "lock app 1.0.0"
        log = "log 3\nput bin/run store/c0\nput doc store/c1\nput same store/c0\nlock store/c2"
        tail = [("put", "tree/bin/run", "go"), ("put", "tree/doc", ""), ("put", "tree/same", "go"), ("put", "lock", text), ("drop", "log")]
        self.assertEqual(install_deeds({}, REGISTRY, OLD), [
            ("put", "store/new", "go"), ("move", "store/new", "store/c0"), ("put", "store/new", ""), ("move", "store/new", "store/c1"),
            ("put", "store/new", text), ("move", "store/new", "store/c2"), ("put", "log-new", log), ("move", "log-new", "log")] + tail)
        self.assertEqual(install_deeds(FIRST, REGISTRY, {"lib": (ONE, ("f",))}), [
            ("put", "store/new", "lock lib 1.0.0 ; with f"), ("move", "store/new", "store/c3"),
            ("put", "log-new", "log 4\ndrop same\ndrop doc\ndrop bin/run\nput lib store/c0\nlock store/c3"), ("move", "log-new", "log"),
            ("drop", "tree/same"), ("drop", "tree/doc"), ("drop", "tree/bin/run"), ("put", "tree/lib", "go"), ("put", "lock", "lock lib 1.0.0 ; with f"), ("drop", "log")])

    def test_plan_that_stands_there(self):
        self.assertEqual(install_deeds(FIRST, REGISTRY, OLD), [
            ("put", "log-new", "log 0\nlock store/c2"), ("move", "log-new", "log"), ("put", "lock", "lock app 1.0.0"), ("drop", "log")])

    def test_empty_plan(self):
        self.assertEqual(install_deeds({}, REGISTRY, {}), [
            ("put", "store/new", ""), ("move", "store/new", "store/c0"), ("put", "log-new", "log 0\nlock store/c0"), ("move", "log-new", "log"),
            ("put", "lock", ""), ("drop", "log")])
        found = install_deeds(FIRST, ((), ()), {})
        self.assertEqual(found, [("put", "log-new", "log 3\ndrop same\ndrop doc\ndrop bin/run\nlock store/c1"), ("move", "log-new", "log"), ("drop", "tree/same"),
                                 ("drop", "tree/doc"), ("drop", "tree/bin/run"), ("put", "lock", ""), ("drop", "log")])
        self.assertEqual(meant(after(FIRST, found)), ({}, ""))

    def test_that_has_to_mend_first(self):
        files = {**FIRST, "log": "log 1\nput new store/c1\nlock store/c0", "log-new": "half"}
        found = install_deeds(files, REGISTRY, OLD)
        self.assertEqual(found[:4], [("put", "tree/new", ""), ("put", "lock", "go"), ("drop", "log"), ("drop", "log-new")])
        self.assertEqual(found[4:], [("put", "log-new", "log 1\ndrop new\nlock store/c2"), ("move", "log-new", "log"), ("drop", "tree/new"),
                                     ("put", "lock", "lock app 1.0.0"), ("drop", "log")])

    def test_all_else_stays(self):
        files = {path: "kept" for path in disks.NEAR}
        done = after(files, install_deeds(files, REGISTRY, OLD))
        self.assertEqual({path: done[path] for path in files}, files)


class TestMending(unittest.TestCase):
    def test_deed_by_deed(self):
        seen = {}
        for seed in range(600):
            files = disks.some_disk(seed)
            found = calls_alike(self, mend_deeds, files)
            self.assertTrue(same(found, disks.mend(files)), seed)
            calm = after(files, found)
            self.assertTrue(same(calls_alike(self, meant, files), disks.meant(files)))
            self.assertEqual(list(meant(files)[0]), sorted(meant(files)[0]))
            self.assertIs(calls_alike(self, is_calm, files), found == [])
            self.assertEqual([mend_deeds(calm), is_calm(calm), meant(calm)], [[], True, meant(files)])
            kind = (disks.good_log(files) is not None, "log" in files, "log-new" in files)
            seen[kind] = seen.get(kind, 0) + 1
        self.assertEqual(len(seen), 6)
        self.assertGreater(min(seen.values()), 10)

    def test_by_hand(self):
        shelves = {"store/c0": "x", "store/c5": ""}
        good = {**shelves, "log": "log 2\ndrop a\nput a store/c5\nlock store/c0"}
        wanted = [("drop", "tree/a"), ("put", "tree/a", ""), ("put", "lock", "x"), ("drop", "log")]
        self.assertEqual([mend_deeds(good), mend_deeds({**good, "log-new": ""})], [wanted, wanted + [("drop", "log-new")]])
        self.assertEqual(meant({**good, "tree/b": "q", "lock": "old"}), ({"a": "", "b": "q"}, "x"))

    def test_logs_that_are_not_done(self):
        shelves = {"store/c0": "x", "tree/a": "y", "lock": "old"}
        for text in ("log 1\nput a store/c1\nlock store/c0", "log 1\nput a store/c0\nlock store/c1", "log 0\nlock store/c1", "", "log 0\nlock store/c0 ",
                     "log 1\nput a store/c0"):
            files = {**shelves, "log": text}
            self.assertEqual(mend_deeds(files), [("drop", "log")])
            self.assertEqual(mend_deeds({**files, "log-new": text}), [("drop", "log"), ("drop", "log-new")])
            self.assertEqual([meant(files), is_calm(files)], [({"a": "y"}, "old"), False])

    def test_new_log_alone(self):
        files = {"store/c0": "x", "log-new": "log 1\nput a store/c0\nlock store/c0"}
        self.assertEqual([mend_deeds(files), meant(files), is_calm(files)], [[("drop", "log-new")], ({}, None), False])

    def test_nothing_to_do(self):
        for files in ({}, {"lock": ""}, {"store/new": "x", "gen/new": "y", "tree/log": "z", "log/a": "q"}):
            self.assertEqual([mend_deeds(files), is_calm(files)], [[], True])
        self.assertEqual([meant({}), meant({"lock": ""})], [({}, None), ({}, "")])


if __name__ == "__main__":
    unittest.main()
