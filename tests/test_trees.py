"""[39]: trees, and the steps between them there and back."""

import random
import unittest

from packsworn.trees import steps_between, tree_of, tree_on
from tests import disks
from tests.kinds import calls_alike, same
from tests.samples import ONE, TWO
from tests.small import pack, rows

PATHS = ["a", "a/b", "a-b", "b", "b/a", "c"]


def some_tree(chance):
    return disks.shuffled(chance, {path: chance.choice(disks.CONTENTS) for path in chance.sample(PATHS, chance.randint(0, 6))})


def led(tree, steps):
    """Return the tree behind some steps."""
    tree = dict(tree)
    for step in steps:
        if step[0] == "drop":
            del tree[step[1]]
        else:
            tree[step[1]] = step[2]
    return tree


class TestTrees(unittest.TestCase):
    def test_of_plans(self):
        many = 0
        for case, plans, _ in rows():
            for plan in plans[:3]:
                found = calls_alike(self, tree_of, case[0], plan)
                self.assertEqual(found, disks.tree_of(case[0], plan))
                self.assertEqual(list(found), sorted(found))
                many += len(found) > 1
        self.assertGreater(many, 10)

    def test_of_other_dicts(self):
        for seed in range(100):
            chance = random.Random(seed)
            registry = disks.some_registry(chance)
            plan = disks.some_plan(chance, registry)
            self.assertEqual(calls_alike(self, tree_of, registry, plan), disks.tree_of(registry, plan))
        registry = ((pack("a", files=(("x", "1"),)), pack("a", TWO, files=(("x", "2"), ("y", ""))), pack("b", files=(("z", "3"),))), ())
        self.assertEqual(tree_of(registry, {"b": (ONE, ("f",)), "a": (TWO, ())}), {"x": "2", "y": "", "z": "3"})
        self.assertEqual([tree_of(registry, {}), tree_of(registry, {"a": (ONE, ())})], [{}, {"x": "1"}])

    def test_on_disks(self):
        for seed in range(300):
            files = disks.some_disk(seed)
            found = calls_alike(self, tree_on, files)
            self.assertEqual(found, disks.tree(files))
            self.assertEqual(list(found), sorted(found))
        self.assertEqual(tree_on({"tree": "x", "trees/a": "x", "tree/tree/a": "y", "tree/b": "", "a/tree/b": "x"}), {"b": "", "tree/a": "y"})

    def test_steps_there_and_back(self):
        for seed in range(500):
            chance = random.Random(seed)
            old, new = some_tree(chance), some_tree(chance)
            steps = calls_alike(self, steps_between, old, new)
            self.assertEqual([led(old, steps), led(new, steps_between(new, old))], [new, old])
            drops = sorted((path for path in old if path not in new), reverse=True)
            puts = [path for path in sorted(new) if path not in old or old[path] != new[path]]
            self.assertTrue(same(steps, [("drop", path) for path in drops] + [("put", path, new[path]) for path in puts]))
            self.assertEqual(steps_between(old, old), [])

    def test_by_hand(self):
        self.assertEqual(steps_between({"a": "x", "a/b": "x", "c": "", "d": "x"}, {"c": "", "d": "", "b": "", "a0": "q"}),
                         [("drop", "a/b"), ("drop", "a"), ("put", "a0", "q"), ("put", "b", ""), ("put", "d", "")])
        self.assertEqual(steps_between({}, {"a": ""}), [("put", "a", "")])


if __name__ == "__main__":
    unittest.main()
