"""[16]: registries, led beside a dict of one's own."""

import random
import unittest

from packsworn.errors import Doubled, NoPack
from packsworn.forms import is_registry
from packsworn.registry import (feature_of, files_of, is_withdrawn, names_of, pack_of, paths_clash, restored,
                                versions_of, with_pack, withdrew, without_pack)
from tests.kinds import calls_alike, same
from tests.samples import ONE, PLAIN, THREE, TWO, full_pack, some_pack, some_registry

NAMES = ["a", "b", "c"]
VERSIONS = [ONE, TWO, THREE, (10, 0, 0), (1, 10, 0)]


def with_files(*paths):
    return ("a", ONE) + PLAIN + (tuple((path, "") for path in sorted(paths)),)


class TestAsking(unittest.TestCase):
    def test_empty(self):
        empty = ((), ())
        self.assertEqual([names_of(empty), versions_of(empty, "a"), pack_of(empty, "a", ONE)], [(), (), None])
        self.assertIs(is_withdrawn(empty, "a", ONE), False)

    def test_asking(self):
        app, late, lib = ("app", TWO, ()) + PLAIN, ("app", (10, 0, 0), ()) + PLAIN, full_pack("lib")
        registry = ((app, late, lib), (("app", TWO),))
        self.assertEqual(names_of(registry), ("app", "lib"))
        self.assertEqual([versions_of(registry, name) for name in ("app", "lib", "zip")],
                         [(TWO, (10, 0, 0)), (ONE,), ()])
        self.assertEqual([pack_of(registry, "app", TWO), pack_of(registry, "lib", ONE)], [app, lib])
        self.assertEqual([pack_of(registry, "lib", TWO), pack_of(registry, "zip", TWO)], [None, None])
        self.assertIs(is_withdrawn(registry, "app", TWO), True)
        self.assertIs(is_withdrawn(registry, "app", (10, 0, 0)), False)
        self.assertIs(is_withdrawn(registry, "zip", TWO), False)

    def test_pack(self):
        pack = full_pack()
        self.assertEqual(feature_of(pack, "small"), ("small", (), ()))
        self.assertEqual(feature_of(pack, "fast"), pack[5][0])
        self.assertIsNone(feature_of(pack, "deep"))
        self.assertIsNone(feature_of(("a", ONE, ()) + PLAIN, "deep"))
        self.assertTrue(same(calls_alike(self, files_of, pack), {"app/doc": "a\nb\\n", "app/run": ""}))
        self.assertEqual(list(files_of(with_files("b", "a", "c/d"))), ["a", "b", "c/d"])
        self.assertTrue(same(files_of(("a", ONE, ()) + PLAIN), {}))

    def test_paths_clash(self):
        for one, other, wanted in ((["a"], ["a"], True), (["a"], ["a/b"], True), (["a/b/c"], ["a"], True),
                                   (["a"], ["ab"], False), (["a"], ["a-b"], False), (["a/b"], ["a/bc"], False),
                                   (["a/b"], ["a/c"], False), (["a/b"], ["b"], False), ([], ["a"], False), ([], [], False),
                                   (["b", "c", "d/e"], ["a", "d"], True), (["b", "c", "d/e"], ["a", "e"], False),
                                   (["a/b"], ["a/b/c/d", "z"], True)):
            self.assertIs(paths_clash(with_files(*one), with_files(*other)), wanted, (one, other))
            self.assertIs(paths_clash(with_files(*other), with_files(*one)), wanted, (one, other))


class TestChanging(unittest.TestCase):
    def test_beside_a_dict(self):
        for seed in range(40):
            chance = random.Random(seed)
            registry, packs, withdrawn = ((), ()), {}, set()
            for _ in range(60):
                registry = self.step(chance, registry, packs, withdrawn)
                wanted = (tuple(packs[mark] for mark in sorted(packs)), tuple(sorted(withdrawn)))
                self.assertTrue(same(registry, wanted))
                self.assertTrue(is_registry(registry))

    def step(self, chance, registry, packs, withdrawn):
        """Do one call to a registry, and the same to a dict and a set; return the new registry."""
        mark = (chance.choice(NAMES), chance.choice(VERSIONS))
        call = chance.choice([with_pack, with_pack, without_pack, withdrew, restored])
        if call is with_pack:
            pack = some_pack(chance, mark[0], mark[1], NAMES)
            if mark in packs:
                self.refused(Doubled, mark, with_pack, registry, pack)
                return registry
            packs[mark] = pack
            return calls_alike(self, with_pack, registry, pack)
        if mark not in packs:
            self.refused(NoPack, mark, call, registry, mark[0], mark[1])
            return registry
        if call is without_pack:
            del packs[mark]
        if call is withdrew:
            withdrawn.add(mark)
        else:
            withdrawn.discard(mark)
        return calls_alike(self, call, registry, mark[0], mark[1])

    def refused(self, kind, mark, call, *arguments):
        with self.assertRaises(kind) as caught:
            call(*arguments)
        self.assertTrue(same((caught.exception.name, caught.exception.version), mark))

    def test_withdrawn_again_and_restored_again(self):
        registry = with_pack(((), ()), ("a", ONE, ()) + PLAIN)
        gone = withdrew(registry, "a", ONE)
        self.assertEqual([withdrew(gone, "a", ONE), restored(gone, "a", ONE), restored(registry, "a", ONE)],
                         [gone, registry, registry])
        self.assertEqual(without_pack(gone, "a", ONE), ((), ()))
        self.assertEqual(with_pack(without_pack(gone, "a", ONE), ("a", ONE, ()) + PLAIN), registry)

    def test_some_registries(self):
        for seed in range(30):
            chance = random.Random(seed)
            registry = some_registry(chance, NAMES)
            self.assertEqual(names_of(registry), tuple(sorted({pack[0] for pack in registry[0]})))
            for pack in registry[0]:
                self.assertIs(pack_of(registry, pack[0], pack[1]), pack)
                self.assertIn(pack[1], versions_of(registry, pack[0]))
                self.assertIs(is_withdrawn(registry, pack[0], pack[1]), pack[:2] in registry[1])


if __name__ == "__main__":
    unittest.main()
