"""[23] and, of [8], the lock that is the first plan: the order of plans, against a slow listing."""

import itertools
import random
import unittest

from packsworn.errors import TooMany
from packsworn.liking import all_plans, first_by_all, first_unlike, is_ahead, liked_options, liking, row_of
from tests import slow
from tests.kinds import calls_alike, same
from tests.samples import EVERY, ONE, PLAIN, THREE, TWO, some_case

MODES = ("newest", "oldest", "steady")


def free_case(mode, lock):
    """Return a case of many plans: of two names of the wish, one of which needs a third one, and a fourth one."""
    packs = []
    for version in (ONE, TWO, THREE):
        packs.append(("b", version, ()) + PLAIN)
        packs.append(("c", version, (("a", EVERY, (), True),) if version == TWO else ()) + PLAIN)
        packs.append(("a", version, ()) + PLAIN)
        packs.append(("d", version, (("d", EVERY, (), True),)) + PLAIN)
    return (tuple(sorted(packs)), ()), (("c", EVERY, (), True), ("b", EVERY, (), True), ("c", EVERY, (), True)), lock, mode


CASES = [free_case(mode, lock) for mode in MODES for lock in (
    {}, {"a": (TWO, ()), "c": (TWO, ()), "x": (ONE, ())}, {"b": (ONE, ("f",)), "d": (ONE, ()), "a": ((9, 9, 9), ())})]
CASES += [case for case in (some_case(seed) for seed in range(400)) if slow.ways(case) <= 100]


def wide_case(many):
    """Return a case with so many versions of each of some names, the first two of which are wished."""
    names = "abcdefghijkl"[:len(many)]
    packs = tuple((name, (at + 1, 0, 0), ()) + PLAIN for name, most in zip(names, many) for at in range(most))
    return (packs, ()), (("b", EVERY, (), True), ("a", EVERY, (), True)), {}, "newest"


class TestLiking(unittest.TestCase):
    def test_row(self):
        for case in CASES:
            self.assertTrue(same(calls_alike(self, row_of, case), tuple(slow.row(case))))
        self.assertEqual(row_of(CASES[0]), ("c", "b", "a", "d"))

    def test_options_by_hand(self):
        lock = {"a": (TWO, ()), "b": ((9, 9, 9), ()), "c": (ONE, ()), "x": (ONE, ())}
        up, down = (ONE, TWO, THREE), (THREE, TWO, ONE)
        for mode, wanted in (("newest", [(None,) + down, down + (None,), down + (None,), (None,) + down]),
                             ("oldest", [(None,) + up, up + (None,), up + (None,), (None,) + up]),
                             ("steady", [(TWO, THREE, ONE, None), down + (None,), (ONE, THREE, TWO, None), (None,) + down])):
            case = free_case(mode, lock)
            self.assertEqual([liked_options(case, name) for name in "abcd"], wanted, mode)

    def test_steady_without_its_name_in_the_lock(self):
        self.assertEqual([liked_options(free_case("steady", {}), name) for name in "ab"],
                         [(None, THREE, TWO, ONE), (THREE, TWO, ONE, None)])

    def test_name_that_no_pack_has(self):
        for mode in MODES:
            for lock in ({}, {"a": (ONE, ())}):
                self.assertEqual(liked_options((((), ()), (("a", EVERY, (), True),), lock, mode), "a"), (None,))

    def test_options(self):
        for case in CASES:
            for name in slow.names(case):
                found = calls_alike(self, liked_options, case, name)
                self.assertEqual(sorted(found, key=lambda option: option or ()), slow.options(case, name))
                for one, other in itertools.combinations(found, 2):
                    self.assertTrue(slow.is_liked_better(case, name, one, other))

    def test_all_plans(self):
        many = 0
        for case in CASES:
            wanted = slow.plans(case)
            found = calls_alike(self, all_plans, case)
            self.assertTrue(same(found, wanted))
            self.assertTrue(all(list(plan) == sorted(plan) for plan in found))
            self.assertTrue(same(calls_alike(self, first_by_all, case), wanted[0] if wanted else None))
            many += len(wanted) > 1
        self.assertGreater(many, 20)

    def test_two_plans(self):
        for case in CASES:
            plans = all_plans(case)[:12]
            chance = random.Random(len(plans))
            for at, other in itertools.product(range(len(plans)), repeat=2):
                one = {name: plans[at][name] for name in chance.sample(sorted(plans[at]), len(plans[at]))}
                self.assertIs(calls_alike(self, is_ahead, case, one, plans[other]), at < other)
                self.assertEqual(slow.compared(case, one, plans[other]), (at > other) - (at < other))
                self.assertEqual(liking(case, one) < liking(case, plans[other]), at < other)
                unlike = [name for name in slow.row(case)
                          if one.get(name, (None,))[0] != plans[other].get(name, (None,))[0]]
                self.assertEqual(calls_alike(self, first_unlike, case, one, plans[other]), unlike[0] if unlike else None)

    def test_liking(self):
        for case in CASES:
            for plan in all_plans(case)[:12]:
                told = calls_alike(self, liking, case, plan)
                self.assertEqual(len(told), len(slow.row(case)))
                for name, place in zip(slow.row(case), told):
                    self.assertEqual(liked_options(case, name)[place], plan.get(name, (None,))[0])

    def test_lock_that_is_a_plan_comes_first(self):
        many = 0
        for registry, wish, _, _ in CASES:
            for plan in slow.plans((registry, wish, {}, "newest"))[:6]:
                case = (registry, wish, plan, "steady")
                self.assertTrue(same(first_by_all(case), plan))
                self.assertEqual(all_plans(case)[0], plan)
                many += 1
        self.assertGreater(many, 100)

    def test_withdrawn_pack_of_the_lock(self):
        registry = ((("a", ONE, ()) + PLAIN, ("a", TWO, ()) + PLAIN), (("a", ONE), ("a", TWO)))
        for mode in MODES:
            for lock, wanted in (({}, []), ({"a": (ONE, ())}, [{"a": (ONE, ())}]), ({"a": (TWO, ("f",))}, [{"a": (TWO, ())}])):
                self.assertEqual(all_plans((registry, (("a", EVERY, (), True),), lock, mode)), wanted)


class TestTooMany(unittest.TestCase):
    def test_just_as_many(self):
        case = wide_case([4, 4, 4, 4, 1, 1, 1, 1, 1])
        self.assertEqual(slow.ways(case), 20000)
        plans = all_plans(case)
        self.assertEqual([len(plans), first_by_all(case)], [16, {"a": ((4, 0, 0), ()), "b": ((4, 0, 0), ())}])
        self.assertEqual(plans[1], {"a": ((3, 0, 0), ()), "b": ((4, 0, 0), ())})

    def test_beyond(self):
        for many in ([1, 2, 2, 2, 2, 4, 4, 4], [3] * 6 + [4], [5] * 12, [4, 4, 4, 5, 1, 1, 1, 1, 1]):
            case = wide_case(many)
            self.assertGreater(slow.ways(case), 20000)
            for call in (all_plans, first_by_all):
                with self.assertRaises(TooMany) as caught:
                    call(case)
                self.assertTrue(same(caught.exception.most, 20000))


if __name__ == "__main__":
    unittest.main()
