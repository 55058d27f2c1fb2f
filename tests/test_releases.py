"""[47]: releases that take a pack's place, against asking whether there is a plan with each version near the ends of the room."""

import unittest

from packsworn.errors import Doubled
from packsworn.forms import is_pack
from packsworn.plans import is_plan
from packsworn.releases import drops_in, limits_of, released_as, room_for, slim, slim_release, with_release
from tests import lasts, nets, slow
from tests.kinds import calls_alike, same
from tests.samples import EVERY, ONE, THREE, TWO, full_pack
from tests.small import EARLY, LATE, asked, case_of, pack, rows

LAST = lasts.LAST


def holds(plan, condition):
    (thing, value) = condition
    name = thing[0]
    return name in plan and (thing[1] in plan[name][1] if len(thing) == 2 else plan[name][0] == value)


def limits(case, plan, name):
    """Return the list of what binds the version of a name, by going through all needs, peers and bars."""
    found = [(line, need[1]) for line, conditions, need in slow.needs_with_conditions(case)
             if need[0] == name and all(holds(plan, one) for one in conditions)]
    for one in case[0][0]:
        if one[0] in plan and plan[one[0]][0] == one[1]:
            found += [(("peer",) + one[:2] + (at,), note[1]) for at, note in enumerate(one[3]) if note[0] == name]
            found += [(("bar",) + one[:2] + (at,), note[1]) for at, note in enumerate(one[4]) if note[0] == name]
    return sorted(found)


def has_room(limit, version):
    return slow.is_plainly_in(version, limit[1]) is (limit[0][0] != "bar")


def points_near(limits_told):
    """Return the versions at the ends of ranges, and just beside them."""
    ends = lasts.ranges_in(tuple(limits_told)) | {lasts.FIRST, LAST, (5, 5, 5)}
    beside = {lasts.next_version(end) for end in ends if end != LAST}
    ahead = {(end[0], end[1], end[2] - 1) for end in ends if end[2]} | {(end[0], end[1] - 1, 999999) for end in ends if not end[2] and end[1]}
    ahead |= {(end[0] - 1, 999999, 999999) for end in ends if end[1:] == (0, 0) and end[0]}
    return sorted(ends | beside | ahead)


def plans_and_names():
    """Return a list of (case, plan, name) for all plans of small cases, and for plans of many names."""
    found = [(case, plan, name) for case, plans, _ in rows() for plan in plans[:3] for name in plan]
    return found + [(case, plan, name) for case, plan in nets.nets(60) if plan for name in sorted(plan)[:3]]


class TestPacks(unittest.TestCase):
    def test_released_as(self):
        one = full_pack()
        for version in (ONE, TWO, LAST, (0, 0, 0)):
            found = calls_alike(self, released_as, one, version)
            self.assertTrue(same(found, ("app", version) + one[2:]))

    def test_slim(self):
        one = full_pack()
        need = (("zip", EVERY, ("deep",), True), ("app", (), (), False))
        told = {(): ((), ()), ("small",): ((("small", (), ()),), ("small",)), ("fast",): ((("fast", (), need),), ("fast",)),
                ("fast", "small"): (one[5], one[6])}
        for kept, (features, defaults) in told.items():
            found = calls_alike(self, slim, one, kept)
            self.assertTrue(same(found, one[:5] + (features, defaults, one[7])))
            self.assertTrue(is_pack(found))
        calling = pack("a", features=(("f", ("f", "g", "h"), ()), ("g", ("h",), asked("b")), ("h", ("f",), ())), defaults=("g", "h"))
        self.assertEqual(slim(calling, ("f", "h")), pack("a", features=(("f", ("f", "h"), ()), ("h", ("f",), ())), defaults=("h",)))
        self.assertEqual(slim(calling, ("g",)), pack("a", features=(("g", (), asked("b")),), defaults=("g",)))

    def test_slim_of_all_packs(self):
        for case, _, _ in rows():
            for one in case[0][0]:
                for kept in [tuple(told[0] for told in one[5])[at:] for at in range(4)]:
                    found = slim(one, kept)
                    self.assertTrue(is_pack(found))
                    self.assertEqual(found[:5] + found[7:], one[:5] + one[7:])
                    self.assertEqual([told[0] for told in found[5]], list(kept))
                    for name, also, extras in found[5]:
                        whole = [told for told in one[5] if told[0] == name][0]
                        self.assertEqual((also, extras), (tuple(other for other in whole[1] if other in kept), whole[2]))
                    self.assertEqual(found[6], tuple(name for name in one[6] if name in kept))

    def test_with_release(self):
        case = case_of([pack("b"), pack("a", TWO)], asked("a"), (("b", ONE),), {"b": (ONE, ()), "a": (TWO, ())}, "steady")
        for one in (pack("a"), pack("a", THREE), pack("b", (0, 9, 9)), pack("c")):
            found = calls_alike(self, with_release, case, one)
            self.assertTrue(same(found, ((tuple(sorted(case[0][0] + (one,))), case[0][1]),) + case[1:]))
            self.assertEqual(list(found[2]), ["a", "b"])
        for one in (pack("a", TWO), pack("b", needs=asked("z"))):
            with self.assertRaises(Doubled) as caught:
                with_release(case, one)
            self.assertTrue(same((caught.exception.name, caught.exception.version), one[:2]))


class TestRoom(unittest.TestCase):
    def test_limits(self):
        kinds = {}
        for case, plan, name in plans_and_names():
            found = calls_alike(self, limits_of, case, plan, name)
            told = limits(case, plan, name)
            self.assertEqual([source for source, _ in found], [source for source, _ in told])
            self.assertTrue(lasts.is_range(calls_alike(self, room_for, case, plan, name)))
            for version in points_near(told):
                for one, other in zip(found, told):
                    self.assertIs(slow.is_plainly_in(version, one[1]), has_room(other, version))
                    kinds[one[0][0]] = kinds.get(one[0][0], 0) + 1
                self.assertIs(slow.is_plainly_in(version, room_for(case, plan, name)), all(has_room(one, version) for one in told))
            self.assertTrue(slow.is_plainly_in(plan[name][0], room_for(case, plan, name)))
        self.assertEqual(sorted(kinds), ["bar", "extra", "need", "peer", "wish"])
        self.assertGreater(min(kinds.values()), 30)

    def test_drops_in(self):
        seen = {True: 0, False: 0, "doubled": 0}
        for case, plan, name in plans_and_names()[::3]:
            told = limits(case, plan, name)
            known = [one[1] for one in case[0][0] if one[0] == name]
            own = [one for one in case[0][0] if one[:2] == (name, plan[name][0])][0]
            for version in sorted(set(points_near(told)) | set(known)):
                if version in known:
                    with self.assertRaises(Doubled) as caught:
                        drops_in(case, plan, name, version)
                    self.assertTrue(same((caught.exception.name, caught.exception.version), (name, version)))
                    seen["doubled"] += 1
                    continue
                wanted = all(has_room(one, version) for one in told)
                self.assertIs(drops_in(case, plan, name, version), wanted)
                other = with_release(case, own[:1] + (version,) + own[2:])
                self.assertIs(is_plan(other, {**plan, name: (version, plan[name][1])}), wanted)
                seen[wanted] += 1
        self.assertGreater(min(seen.values()), 100)

    def test_slim_releases(self):
        many = 0
        for case, plan, name in plans_and_names()[::2]:
            for version in [point for point in points_near(limits(case, plan, name)) if (name, point) not in [one[:2] for one in case[0][0]]][:4]:
                found = calls_alike(self, slim_release, case, plan, name, version)
                own = [one for one in case[0][0] if one[:2] == (name, plan[name][0])][0]
                self.assertTrue(same(found, slim(own, plan[name][1])[:1] + (version,) + slim(own, plan[name][1])[2:]))
                if slow.is_plainly_in(version, room_for(case, plan, name)):
                    other = with_release(case, found)
                    new = {**plan, name: (version, plan[name][1])}
                    self.assertTrue(same(slow.plan(other, {one: new[one][0] for one in new}), {one: new[one] for one in sorted(new)}))
                    many += len(found[5]) < len(own[5])
        self.assertGreater(many, 100)

    def test_greatest_version(self):
        case = case_of([pack("a"), pack("b", needs=(("a", EVERY, (), True),))], asked("b"))
        plan = {"a": (ONE, ()), "b": (ONE, ())}
        self.assertEqual([drops_in(case, plan, "a", LAST), slim_release(case, plan, "a", LAST), room_for(case, plan, "a")], [True, pack("a", LAST), EVERY])
        tight = case_of([pack("a"), pack("b", needs=(("a", ((ONE, LAST),), (), True),))], asked("b"))
        self.assertEqual([drops_in(tight, plan, "a", LAST), drops_in(tight, plan, "a", (999999, 999999, 999998)), drops_in(tight, plan, "a", lasts.FIRST)], [False, True, False])

    def test_by_hand(self):
        own = pack("a", needs=(("a", EARLY, (), True),), peers=(("a", ((ONE, THREE),)), ("b", EVERY)), bars=(("a", (((1, 2, 0), (1, 3, 0)),)), ("c", EVERY)))
        other = pack("b", bars=(("a", LATE), ("a", ())), peers=(("a", EVERY),))
        case = case_of([own, other], asked("b", "a", "a"))
        plan = {"b": (ONE, ()), "a": (ONE, ())}
        self.assertEqual(limits_of(case, plan, "a"), [
            (("bar", "a", ONE, 0), (((0, 0, 0), (1, 2, 0)), ((1, 3, 0), None))), (("bar", "b", ONE, 0), EARLY), (("bar", "b", ONE, 1), EVERY), (("need", "a", ONE, 0), EARLY),
            (("peer", "a", ONE, 0), ((ONE, THREE),)), (("peer", "b", ONE, 0), EVERY), (("wish", 1), EVERY), (("wish", 2), EVERY)])
        self.assertEqual(room_for(case, plan, "a"), ((ONE, (1, 2, 0)), ((1, 3, 0), TWO)))
        self.assertEqual([drops_in(case, plan, "a", version) for version in ((0, 9, 9), (1, 1, 999999), (1, 2, 0), (1, 3, 0), (1, 999999, 999999), TWO)],
                         [False, True, False, True, True, False])

    def test_withdrawn_ones(self):
        case = case_of([pack("a"), pack("a", TWO)], asked("a"), (("a", ONE), ("a", TWO)), {"a": (ONE, ())})
        plan = {"a": (ONE, ())}
        self.assertEqual([drops_in(case, plan, "a", THREE), slim_release(case, plan, "a", TWO)], [True, pack("a", TWO)])
        with self.assertRaises(Doubled):
            drops_in(case, plan, "a", TWO)
        with self.assertRaises(Doubled):
            drops_in(case, plan, "a", ONE)


if __name__ == "__main__":
    unittest.main()
