"""[32]: what would help, against asking each change by going through all choices."""

import itertools
import unittest

from packsworn.errors import TooMany
from packsworn.helps import had_versions, lifted_withdrawals, nearest_wishes
from tests import slow
from tests.kinds import calls_alike, same
from tests.samples import EVERY, ONE, THREE, TWO
from tests.small import EARLY, EMPTY, LATE, asked, case_of, pack, rows
from tests.test_cores import lots, wishing

CASES = [wishing(at, case) for at, (case, _, _) in enumerate(rows()) if slow.ways(case) <= 40]


def has_plan(case, wish, withdrawn):
    return bool(slow.plans(((case[0][0], withdrawn), wish, case[2], case[3])))


def with_range(wish, at, one):
    return wish[:at] + ((wish[at][0], one) + wish[at][2:],) + wish[at + 1:]


def nearest(case):
    for lot in lots(len(case[1])):
        wish = case[1]
        for at in lot:
            wish = with_range(wish, at, EVERY)
        if has_plan(case, wish, case[0][1]):
            return wish
    return None


def lifted(case):
    gone, found = case[0][1], []
    for size in range(len(gone) + 1):
        for lot in itertools.combinations(gone, size):
            if not any(set(other) <= set(lot) for other in found):
                if has_plan(case, case[1], tuple(mark for mark in gone if mark not in lot)):
                    found.append(lot)
    return sorted(found)


def withdrawing(case, many):
    """Return a case with so many packs withdrawn at most."""
    packs = case[0][0]
    return (packs, tuple(one[:2] for one in packs[:many])), case[1], case[2], case[3]


class TestHadVersions(unittest.TestCase):
    def test_against_asking_each(self):
        seen = set()
        for case in CASES:
            for at, need in enumerate(case[1]):
                wanted = [version for version in slow.options(case, need[0])[1:]
                          if has_plan(case, with_range(case[1], at, ((version, version[:2] + (version[2] + 1,)),)), case[0][1])]
                self.assertTrue(same(calls_alike(self, had_versions, case, at), wanted))
                seen.add(len(wanted))
        self.assertTrue({0, 1, 2} <= seen)

    def test_by_hand(self):
        packs = [pack("a"), pack("a", TWO, (("b", LATE, (), True),)), pack("a", THREE), pack("b")]
        case = case_of(packs, (("a", (), ("f",), True),))
        self.assertEqual(had_versions(case, 0), [])
        case = case_of(packs, (("a", (), (), False), ("a", LATE, (), True), ("z", EVERY, (), True)))
        self.assertEqual([had_versions(case, 0), had_versions(case_of(packs, case[1][:2]), 0), had_versions(case_of(packs, case[1][:1]), 0)],
                         [[], [THREE], [ONE, THREE]])
        self.assertEqual(had_versions(case, 2), [])

    def test_greatest_version(self):
        top = (999999, 999999, 999999)
        self.assertEqual(had_versions(case_of([pack("a"), pack("a", top)], asked("a")), 0), [ONE, top])


class TestNearestWishes(unittest.TestCase):
    def test_against_asking_each(self):
        seen = {"own": 0, "other": 0, "none": 0}
        for case in CASES:
            wanted = nearest(case)
            self.assertTrue(same(calls_alike(self, nearest_wishes, case), wanted), case)
            seen["none" if wanted is None else "own" if wanted == case[1] else "other"] += 1
        self.assertGreater(min(seen.values()), 10)

    def test_own_wish(self):
        for case in (EMPTY, case_of([pack("a")], (("a", EARLY, (), True),))):
            self.assertEqual(nearest_wishes(case), case[1])

    def test_none_even_with_all(self):
        self.assertIsNone(nearest_wishes(case_of([pack("a")], (("a", LATE, (), True), ("b", LATE, (), True)))))
        self.assertIsNone(nearest_wishes(case_of([pack("a")], (("a", EVERY, ("f",), True),))))

    def test_fewest_and_least(self):
        wish = (("c", LATE, ("f",), False), ("a", LATE, (), True), ("b", LATE, (), True))
        packs = [pack("a"), pack("b"), pack("c", TWO, features=(("f", (), ()),))]
        self.assertEqual(nearest_wishes(case_of(packs, wish)), (wish[0], ("a", EVERY, (), True), ("b", EVERY, (), True)))
        either = (("a", EARLY, (), True), ("a", LATE, (), True), ("a", ((THREE, None),), (), True))
        self.assertEqual(nearest_wishes(case_of([pack("a"), pack("a", TWO)], either)), (("a", EVERY, (), True), either[1], ("a", EVERY, (), True)))
        both = (("a", EARLY, ("f",), True), ("a", LATE, (), False))
        features = (("f", (), ()),)
        packs = [pack("a", features=features), pack("a", TWO, features=features)]
        self.assertEqual(nearest_wishes(case_of(packs, both)), (("a", EVERY, ("f",), True), both[1]))


class TestLiftedWithdrawals(unittest.TestCase):
    def test_against_asking_each(self):
        seen = set()
        for at, case in enumerate(CASES):
            case = withdrawing(case, at % 7)
            wanted = lifted(case)
            self.assertTrue(same(calls_alike(self, lifted_withdrawals, case), wanted), case)
            seen |= {len(lot) for lot in wanted} or {None}
        self.assertTrue({None, 0, 1, 2} <= seen, seen)

    def test_by_hand(self):
        packs = [pack("a", needs=asked("b")), pack("a", TWO), pack("b"), pack("b", THREE)]
        marks = tuple(one[:2] for one in packs)
        self.assertEqual(lifted_withdrawals(case_of(packs, asked("a"), marks)), [(marks[0], marks[2]), (marks[0], marks[3]), (marks[1],)])
        self.assertEqual(lifted_withdrawals(case_of(packs, asked("a"), marks, {"a": (TWO, ())})), [()])
        self.assertEqual(lifted_withdrawals(case_of(packs, asked("a"), marks, {"a": (ONE, ())})), [(marks[1],), (marks[2],), (marks[3],)])
        self.assertEqual(lifted_withdrawals(case_of(packs, asked("z"), marks)), [])
        self.assertEqual([lifted_withdrawals(case_of(packs, (), marks)), lifted_withdrawals(EMPTY)], [[()], [()]])

    def test_six_and_seven(self):
        packs = [pack("a", (at, 0, 0)) for at in range(1, 8)]
        marks = tuple(one[:2] for one in packs)
        self.assertEqual(lifted_withdrawals(case_of(packs[:6], asked("a"), marks[:6])), [(mark,) for mark in marks[:6]])
        self.assertEqual(lifted_withdrawals(case_of(packs, asked("a"), marks[:6])), [()])
        for wish in (asked("a"), (), asked("z")):
            with self.assertRaises(TooMany) as caught:
                lifted_withdrawals(case_of(packs, wish, marks))
            self.assertTrue(same(caught.exception.most, 6))


if __name__ == "__main__":
    unittest.main()
