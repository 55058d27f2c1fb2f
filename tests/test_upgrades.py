"""[34] and, of [8], the lock that is a plan: cases that are otherwise the same, and what can be had by freeing names."""

import itertools
import random
import unittest

from packsworn.errors import TooMany
from packsworn.plans import is_plan
from packsworn.solver import answer, first_plan, is_answer
from packsworn.upgrades import (freed, held_at, least_to_free, none_lower, pinned, upgraded, versions_to_have, with_lock, with_mode)
from tests import slow
from tests.kinds import calls_alike, same
from tests.large import wide_case
from tests.samples import EVERY, ONE, THREE, TWO
from tests.small import EMPTY, LATE, asked, case_of, pack, rows

CASES = [case for case, _, _ in rows()]


def locking(seed, case):
    """Return a case with another lock: often of a plan, with a name or two exchanged or put beside."""
    chance = random.Random(seed)
    registry, wish, lock, mode = case
    if slow.ways(case) <= 40 and chance.random() < 0.7:
        plans = slow.plans((registry, wish, {}, mode))
        lock = dict(chance.choice(plans)) if plans else dict(lock)
        for name in chance.sample(slow.names(case), min(2, len(slow.names(case)))):
            versions = slow.options(case, name)[1:] + [(9, 9, 9)]
            lock[name] = (chance.choice(versions), ())
        if chance.random() < 0.3:
            lock["gone"] = (ONE, ("f",))
    return registry, wish, {name: lock[name] for name in chance.sample(sorted(lock), len(lock))}, mode


def some_names(chance, case):
    told = sorted(set(slow.names(case)) | set(case[2]) | {"nobody"})
    return tuple(sorted(chance.sample(told, chance.randint(0, len(told)))))


def left_out(case, names, test):
    """Return a case without the packs of names of the lock whose version passes a test beside the lock's."""
    (packs, gone), wish, lock, mode = case

    def stays(mark):
        return mark[0] not in names or mark[0] not in lock or not test(mark[1], lock[mark[0]][0])
    return (tuple(one for one in packs if stays(one[:2])), tuple(mark for mark in gone if stays(mark))), wish, lock, mode


def pinned_slowly(case, name, version):
    need = (name, ((version, version[:2] + (version[2] + 1,)),), (), True)
    return case[0], case[1] + (need,), case[2], case[3]


def least_slowly(case, name, version):
    lock, found = case[2], []
    plans = slow.plans(pinned_slowly(case, name, version))
    for size in range(len(lock) + 1):
        for names in itertools.combinations(sorted(lock), size):
            fits = [plan for plan in plans
                    if all(other not in plan or plan[other][0] == lock[other][0] for other in lock if other not in names)]
            if fits and not any(set(less) <= set(names) for less in found):
                found.append(names)
    return sorted(found)


class TestCases(unittest.TestCase):
    def check(self, call, arguments, wanted):
        """Check a call that returns a case: its lock is a new dict, with its names ascending."""
        found = calls_alike(self, call, *arguments)
        self.assertTrue(same(found, wanted), (call, arguments))
        self.assertEqual(list(found[2]), sorted(found[2]))
        again = call(*arguments)
        again[2]["spoilt"] = True
        self.assertNotIn("spoilt", arguments[0][2])
        self.assertTrue(same(call(*arguments), wanted))

    def test_otherwise_the_same(self):
        for at, case in enumerate(CASES):
            case = locking(at, case)
            chance = random.Random(at)
            registry, wish, lock, mode = case
            names = some_names(chance, case)
            for other in ("newest", "oldest", "steady"):
                self.check(with_mode, (case, other), (registry, wish, lock, other))
            other = {"b": (TWO, ()), "a": (ONE, ("f",))}
            self.check(with_lock, (case, other), (registry, wish, other, mode))
            self.check(freed, (case, names), (registry, wish, {name: lock[name] for name in lock if name not in names}, "steady"))
            self.check(held_at, (case, names), left_out(case, names, lambda its, locked: its != locked))
            self.check(none_lower, (case, names), left_out(case, names, lambda its, locked: its < locked))
            for name in slow.names(case)[:1]:
                for version in (ONE, (9, 9, 9)):
                    self.check(pinned, (case, name, version), pinned_slowly(case, name, version))

    def test_with_lock_copies_the_lock(self):
        lock = {"b": (TWO, ()), "a": (ONE, ())}
        found = with_lock(EMPTY, lock)
        found[2]["c"] = None
        self.assertEqual(lock, {"b": (TWO, ()), "a": (ONE, ())})

    def test_names_that_nobody_has(self):
        case = case_of([pack("a"), pack("a", TWO)], asked("a"), (("a", ONE),), {"z": (ONE, ())})
        for call in (held_at, none_lower):
            for names in ((), ("a",), ("a", "m", "z")):
                self.assertTrue(same(call(case, names), case))
        self.assertTrue(same(freed(case, ("a", "m", "z")), (case[0], case[1], {}, "steady")))

    def test_withdrawn_versions_are_left_out(self):
        packs = [pack("a", version) for version in (ONE, TWO, THREE)] + [pack("b"), pack("b", TWO)]
        gone = (("a", ONE), ("a", TWO), ("a", THREE), ("b", ONE))
        case = case_of(packs, asked("a"), gone, {"a": (TWO, ()), "b": (TWO, ())})
        self.assertEqual(held_at(case, ("a",))[0], (tuple(packs[1:2] + packs[3:]), (("a", TWO), ("b", ONE))))
        self.assertEqual(none_lower(case, ("a",))[0], (tuple(packs[1:]), gone[1:]))
        self.assertEqual(none_lower(case, ("a", "b"))[0], (tuple(packs[1:3] + packs[4:]), gone[1:3]))

    def test_version_of_the_lock_that_no_pack_has(self):
        case = case_of([pack("a"), pack("a", THREE)], asked("a"), (("a", ONE),), {"a": (TWO, ())})
        self.assertEqual([held_at(case, ("a",))[0], none_lower(case, ("a",))[0]], [((), ()), ((pack("a", THREE),), ())])

    def test_pinned_to_the_greatest_version(self):
        top = (999999, 999999, 999999)
        self.assertEqual(pinned(case_of([], asked("a")), "a", top)[1][1], ("a", ((top, None),), (), True))
        self.assertEqual(pinned(EMPTY, "a", (0, 0, 999999))[1], (("a", (((0, 0, 999999), (0, 1, 0)),), (), True),))


class TestUpgraded(unittest.TestCase):
    def test_against_all_plans(self):
        many = 0
        for at, case in enumerate(CASES):
            case = locking(at, case)
            chance = random.Random(at)
            for names in ((), some_names(chance, case)):
                registry, wish, lock, _ = case
                other = registry, wish, {name: lock[name] for name in lock if name not in names}, "steady"
                found = calls_alike(self, upgraded, case, names)
                plans = slow.plans(other)
                self.assertIs(is_answer(other, found), True)
                self.assertEqual(found[0], "plan" if plans else "none")
                if plans:
                    self.assertTrue(same(found[1], plans[0]))
                many += bool(plans)
        self.assertGreater(many, 100)

    def test_lock_that_is_a_plan_stays(self):
        many = 0
        for case in CASES:
            for mode in ("newest", "oldest"):
                plan = first_plan(with_mode(case, mode))
                if plan is not None and is_plan(with_lock(case, plan), plan):
                    self.assertTrue(same(upgraded(with_lock(case, plan), ())[1], plan))
                    self.assertTrue(same(first_plan(with_mode(with_lock(case, plan), "steady")), plan))
                    many += 1
        self.assertGreater(many, 100)

    def test_withdrawn_pack_of_a_freed_name(self):
        case = case_of([pack("a"), pack("a", TWO)], asked("a"), (("a", TWO),), {"a": (TWO, ())})
        self.assertEqual([upgraded(case, ())[1], upgraded(case, ("a",))[1]], [{"a": (TWO, ())}, {"a": (ONE, ())}])
        self.assertTrue(same(upgraded(case, ()), answer(with_mode(case, "steady"))))


class TestVersionsToHave(unittest.TestCase):
    def test_against_all_plans(self):
        seen = set()
        for at, case in enumerate(CASES):
            case = locking(at, case)
            for name in slow.names(case):
                wanted = tuple(version for version in slow.options(case, name)[1:] if slow.plans(pinned_slowly(case, name, version)))
                self.assertTrue(same(calls_alike(self, versions_to_have, case, name), wanted))
                seen.add(len(wanted))
        self.assertTrue({0, 1, 2, 3} <= seen)

    def test_name_that_no_pack_has(self):
        case = case_of([pack("a", needs=asked("b")), pack("a", TWO)], asked("a"))
        self.assertEqual([versions_to_have(case, "b"), versions_to_have(case, "a")], [(), (TWO,)])

    def test_withdrawn(self):
        case = case_of([pack("a"), pack("a", TWO), pack("b")], (), (("a", ONE), ("a", TWO)), {"a": (TWO, ())})
        self.assertEqual([versions_to_have(case, "a"), versions_to_have(case, "b")], [(TWO,), (ONE,)])


class TestLeastToFree(unittest.TestCase):
    def test_against_all_plans(self):
        seen = set()
        for at, case in enumerate(CASES):
            case = locking(at, case)
            for name in slow.names(case):
                for version in slow.options(case, name)[1:]:
                    wanted = least_slowly(case, name, version)
                    found = calls_alike(self, least_to_free, case, name, version)
                    self.assertTrue(same(found, wanted), (case, name, version))
                    seen.add((len(wanted), max([len(lot) for lot in wanted], default=None)))
        self.assertTrue({(0, None), (1, 0), (1, 1), (1, 2)} <= seen, seen)

    def test_edges(self):
        case = case_of([pack("a", needs=asked("z")), pack("a", TWO), pack("b", needs=(("a", LATE, (), True),))], (),
                       lock={"a": (ONE, ()), "m": (ONE, ())})
        self.assertEqual(least_to_free(case, "a", ONE), [])
        self.assertEqual([least_to_free(case, "a", TWO), least_to_free(case, "b", ONE)], [[("a",)], [("a",)]])
        self.assertEqual(least_to_free(with_lock(case, {}), "b", ONE), [()])
        self.assertEqual(least_to_free(with_lock(case, {"b": (TWO, ())}), "b", ONE), [("b",)])
        self.assertEqual(least_to_free(with_lock(case, {"a": (TWO, ("f",))}), "b", ONE), [()])

    def test_either_of_two(self):
        """Of two needed beside each other, one has to give way: either will do."""
        packs = [pack("top", needs=asked("x", "y"))] + [pack(name, version, bars=((other, one),)) for name, other in ("xy", "yx")
                                                         for version, one in ((ONE, ((ONE, TWO),)), (TWO, ()))]
        case = case_of(packs, (), lock={"y": (ONE, ()), "x": (ONE, ())})
        self.assertEqual(least_to_free(case, "top", ONE), [("x",), ("y",)])
        self.assertEqual(least_to_free(with_lock(case, {"y": (ONE, ()), "x": (TWO, ())}), "top", ONE), [()])

    def test_two_that_only_go_together(self):
        packs = [pack("top", needs=asked("x", "y"))] + [pack(name, version, peers=((other, one),)) for name, other in ("xy", "yx")
                                                         for version, one in ((ONE, ((ONE, TWO),)), (TWO, LATE))]
        packs[0] = pack("top", needs=(("x", LATE, (), True), ("y", EVERY, (), True)))
        case = case_of(packs, (), lock={"y": (ONE, ()), "x": (ONE, ())})
        self.assertEqual(least_to_free(case, "top", ONE), [("x", "y")])

    def test_eight_and_nine(self):
        names = "abcdefghi"
        packs = [pack(name, version) for name in names for version in (ONE, TWO)] + [pack("top", needs=tuple((name, LATE, (), True) for name in "ace"))]
        case = case_of(packs, asked("b", "d"), lock={name: (ONE, ()) for name in names[:8]})
        self.assertEqual(least_to_free(case, "top", ONE), [("a", "c", "e")])
        self.assertEqual(least_to_free(with_lock(case, {name: (ONE, ("f",)) for name in "stuvwxyz"}), "top", ONE), [()])
        for locked in (names, "rstuvwxyz"):
            for other in (case, case_of(packs, asked("nobody"))):
                with self.assertRaises(TooMany) as caught:
                    least_to_free(with_lock(other, {name: (ONE, ()) for name in locked}), "top", ONE)
                self.assertTrue(same(caught.exception.most, 8))

    def test_large(self):
        for seed in range(3):
            case = wide_case(seed, 0.1, 1)
            case = with_lock(case, {name: case[2][name] for name in sorted(case[2])[:8]})
            for lot in least_to_free(case, "nb", ONE):
                kept = tuple(name for name in case[2] if name not in lot)
                self.assertIsNotNone(first_plan(held_at(pinned(case, "nb", ONE), kept)))
                for name in lot:
                    tight = held_at(pinned(case, "nb", ONE), kept + (name,))
                    self.assertIsNone(first_plan(tight))


if __name__ == "__main__":
    unittest.main()
