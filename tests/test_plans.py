"""[22]: plans and what a choice breaks, against a slow listing."""

import random
import unittest

from packsworn.forms import is_lock
from packsworn.plans import broken, choice_of, is_plan, plan_of
from tests import slow
from tests.kinds import bent, calls_alike, same, values
from tests.samples import EVERY, ONE, PLAIN, THREE, TWO, some_case, some_choice

LATE = ((TWO, None),)


def pack(name, version=ONE, needs=(), peers=(), bars=(), features=(), defaults=(), files=()):
    return name, version, needs, peers, bars, features, defaults, files


def asked(*names):
    return tuple((name, EVERY, (), True) for name in names)


def case_of(packs, wish, withdrawn=(), lock=None, mode="newest"):
    return (tuple(sorted(packs)), withdrawn), wish, lock or {}, mode


def pairs(many):
    """Return cases with some choices of each, some of names that are reached alone, and those of the slow plans."""
    for seed in range(many):
        chance, case = random.Random(seed), some_case(seed)
        for _ in range(3):
            yield case, some_choice(chance, case)
            choice = some_choice(chance, case)
            yield case, {name: choice[name] for name in choice if (name,) in slow.ranks(case, choice)}
        if slow.ways(case) <= 150:
            for plan in slow.plans(case):
                yield case, {name: plan[name][0] for name in chance.sample(sorted(plan), len(plan))}


def breaks(case, choice):
    """Return a list of all that a choice breaks, told as the document tells it, in its order."""
    (packs, withdrawn), _, lock, _ = case
    reached = slow.ranks(case, choice)
    found = [("lacks", thing[0]) for thing in sorted(reached) if len(thing) == 1 and thing[0] not in choice]
    found += [("idle", name) for name in sorted(choice) if (name,) not in reached]
    for line, conditions, need in slow.needs_with_conditions(case):
        if all(slow.holds(reached, choice, one) for one in conditions):
            if need[0] in choice and not slow.is_plainly_in(choice[need[0]], need[1]):
                found.append(("range", line))
    chosen = [one for one in packs if choice.get(one[0]) == one[1]]
    for one in chosen:
        features = [told[0] for told in one[5]]
        found += [("known", *one[:2], thing[1]) for thing in sorted(reached)
                  if len(thing) == 2 and thing[0] == one[0] and thing[1] not in features]
    for one in chosen:
        found += [("peer", *one[:2], at) for at, (name, its) in enumerate(one[3])
                  if name not in choice or not slow.is_plainly_in(choice[name], its)]
    for one in chosen:
        found += [("bar", *one[:2], at) for at, (name, its) in enumerate(one[4])
                  if name in choice and slow.is_plainly_in(choice[name], its)]
    found += [("clash", *one[:2], *other[:2]) for one in chosen for other in chosen
              if one[0] < other[0] and slow.clash(one, other)]
    return found + [("withdrawn", *one[:2]) for one in chosen
                    if one[:2] in withdrawn and lock.get(one[0], (None,))[0] != one[1]]


class TestPlans(unittest.TestCase):
    def test_against_the_slow_listing(self):
        seen = set()
        for case, choice in pairs(250):
            wanted = slow.plan(case, choice)
            found = calls_alike(self, plan_of, case, choice)
            self.assertTrue(same(found, wanted))
            first = next(iter(breaks(case, choice)), None)
            self.assertTrue(same(calls_alike(self, broken, case, choice), first), (case, choice))
            self.assertEqual(first is None, wanted is not None)
            seen.add(first[0] if first else None)
            if found is not None:
                self.assertEqual(list(found), sorted(found))
                self.assertTrue(same(calls_alike(self, choice_of, found), choice))
                self.assertIs(calls_alike(self, is_plan, case, found), True)
        self.assertEqual(seen, {None, "lacks", "idle", "range", "known", "peer", "bar", "clash", "withdrawn"})

    def test_nothing(self):
        case = case_of([], ())
        self.assertEqual([plan_of(case, {}), broken(case, {}), choice_of({}), is_plan(case, {})], [{}, None, {}, True])

    def test_lacks_and_idle(self):
        case = case_of([pack("a", needs=asked("c", "b")), pack("b"), pack("c"), pack("d")], asked("a", "no-pack"))
        self.assertEqual([broken(case, choice) for choice in ({}, {"a": ONE}, {"a": ONE, "b": ONE}, {"d": ONE, "c": ONE})],
                         [("lacks", "a"), ("lacks", "b"), ("lacks", "c"), ("lacks", "a")])
        case = case_of([pack("a"), pack("b"), pack("c")], asked("b"))
        self.assertEqual(broken(case, {"c": ONE, "b": ONE, "a": ONE}), ("idle", "a"))

    def test_ring_that_nobody_asks_for(self):
        case = case_of([pack("a", needs=asked("b")), pack("b", needs=asked("a")), pack("c")], asked("c"))
        self.assertEqual(broken(case, {"a": ONE, "b": ONE, "c": ONE}), ("idle", "a"))
        self.assertEqual(plan_of(case, {"c": ONE}), {"c": (ONE, ())})

    def test_need_of_a_pack_for_itself(self):
        case = case_of([pack("a", needs=(("a", LATE, (), True),)), pack("a", TWO, (("a", LATE, ("f",), False),),
                        features=(("f", (), ()), ("g", (), ())), defaults=("g",))], asked("a"))
        self.assertEqual([broken(case, {"a": ONE}), plan_of(case, {"a": TWO})],
                         [("range", ("need", "a", ONE, 0)), {"a": (TWO, ("f", "g"))}])

    def test_range(self):
        wish = asked("a", "b") + (("b", LATE, (), True), ("b", (), (), True))
        case = case_of([pack("a", needs=(("b", LATE, (), True),)), pack("b")], wish)
        self.assertEqual(broken(case, {"a": ONE, "b": ONE}), ("range", ("wish", 2)))
        case = case_of([pack("a", needs=asked("b") + (("b", LATE, (), True),)), pack("b")], asked("a"))
        self.assertEqual(broken(case, {"a": ONE, "b": ONE}), ("range", ("need", "a", ONE, 1)))

    def test_range_of_an_extra_only_with_its_feature(self):
        features = (("f", (), asked("b") + (("b", LATE, (), True),)), ("g", ("f",), ()))
        packs = [pack("a", features=features), pack("b")]
        self.assertEqual(plan_of(case_of(packs, asked("a")), {"a": ONE}), {"a": (ONE, ())})
        case = case_of(packs, (("a", EVERY, ("g",), True),))
        self.assertEqual(broken(case, {"a": ONE, "b": ONE}), ("range", ("extra", "a", ONE, "f", 1)))
        self.assertEqual(broken(case, {"a": ONE}), ("lacks", "b"))

    def test_known(self):
        packs = [pack("a", features=(("f", (), ()),)), pack("b")]
        case = case_of(packs, (("b", EVERY, ("z", "y"), True), ("a", EVERY, ("f", "x", "w"), True)))
        self.assertEqual(broken(case, {"b": ONE, "a": ONE}), ("known", "a", ONE, "w"))

    def test_peers_and_bars(self):
        for place, note, wanted in ((3, ("b", EVERY), None), (3, ("c", EVERY), "peer"), (3, ("b", LATE), "peer"),
                                    (3, ("no", EVERY), "peer"), (3, ("a", EVERY), None), (4, ("b", EVERY), "bar"),
                                    (4, ("b", LATE), None), (4, ("c", EVERY), None), (4, ("a", EVERY), "bar")):
            rows = [(), ("b", EVERY)] if place == 3 else [(), ("c", EVERY)]
            first = pack("a")[:place] + ((rows[1], note),) + pack("a")[place + 1:]
            found = broken(case_of([first, pack("b"), pack("c")], asked("a", "b")), {"b": ONE, "a": ONE})
            self.assertEqual(found, wanted and (wanted, "a", ONE, 1))

    def test_a_peer_is_no_support(self):
        case = case_of([pack("a", peers=(("b", EVERY),)), pack("b")], asked("a"))
        self.assertEqual([broken(case, {"a": ONE}), broken(case, {"a": ONE, "b": ONE})],
                         [("peer", "a", ONE, 0), ("idle", "b")])

    def test_clash(self):
        for one, other, wanted in (("p", "p", True), ("p", "p/q", True), ("p/q/r", "p", True), ("p", "pq", False),
                                   ("p-q", "p", False)):
            packs = [pack("b", files=((one, ""),)), pack("a", files=((other, "x"),)), pack("c", files=(("z", ""),))]
            found = broken(case_of(packs, asked("a", "b", "c")), {"c": ONE, "b": ONE, "a": ONE})
            self.assertEqual(found, ("clash", "a", ONE, "b", ONE) if wanted else None)

    def test_withdrawn_pack_that_the_lock_has(self):
        packs, gone = [pack("a"), pack("a", TWO)], (("a", ONE),)
        for lock, wanted in (({}, ("withdrawn", "a", ONE)), ({"a": (ONE, ("f",))}, None), ({"a": (TWO, ())}, ("withdrawn", "a", ONE)),
                             ({"b": (ONE, ())}, ("withdrawn", "a", ONE))):
            for mode in ("newest", "oldest", "steady"):
                case = case_of(packs, asked("a"), gone, lock, mode)
                self.assertEqual([broken(case, {"a": ONE}), broken(case, {"a": TWO})], [wanted, None])

    def test_least_names_first(self):
        packs = [pack(name, peers=(("x", LATE),), bars=(("a", EVERY),)) for name in "abc"]
        free = [pack(name) for name in "abc"]
        for keys in ("abc", "cba", "bca"):
            choice = {name: ONE for name in keys}
            self.assertEqual(broken(case_of(packs, asked("b", "c", "a")), choice), ("peer", "a", ONE, 0))
            self.assertEqual(broken(case_of(free, asked("a", "b", "c"), (("b", ONE), ("c", ONE))), choice),
                             ("withdrawn", "b", ONE))
            plan = {name: (ONE, ("f",)) for name in keys}
            self.assertEqual(list(choice_of(plan).items()), [("a", ONE), ("b", ONE), ("c", ONE)])
            self.assertEqual(list(plan_of(case_of(free, asked("c", "a", "b")), choice)), ["a", "b", "c"])

    def test_order_of_breaks(self):
        packs = [pack("a", ONE, (("b", LATE, ("z",), True),), (("x", EVERY),), (("b", EVERY),), files=(("p", ""),)),
                 pack("b", files=(("p", ""),)), pack("b", TWO, features=(("z", (), ()),), files=(("p", ""),)), pack("c")]
        case = case_of(packs, asked("a"), (("a", ONE),))
        self.assertEqual([broken(case, choice) for choice in (
            {"a": ONE, "c": ONE}, {"a": ONE, "b": ONE, "c": ONE}, {"a": ONE, "b": ONE}, {"a": ONE, "b": TWO})],
            [("lacks", "b"), ("idle", "c"), ("range", ("need", "a", ONE, 0)), ("peer", "a", ONE, 0)])
        self.assertEqual([row[0] for row in breaks(case, {"a": ONE, "b": TWO})], ["peer", "bar", "clash", "withdrawn"])


class TestIsPlan(unittest.TestCase):
    def test_bent_plans(self):
        checked = 0
        for seed in range(400):
            case = some_case(seed)
            if slow.ways(case) > 60:
                continue
            plans = slow.plans(case)
            for plan in [plan for plan in plans if len(plan) > 1][:1]:
                for value in bent(plan):
                    self.assertIs(is_plan(case, value), any(same(value, other) for other in plans), value)
                    checked += 1
        self.assertGreater(checked, 500)

    def test_keys_in_any_order(self):
        case = case_of([pack("a", needs=asked("b")), pack("b")], asked("a"))
        self.assertIs(is_plan(case, {"b": (ONE, ()), "a": (ONE, ())}), True)
        self.assertIs(is_plan(case, {"a": (ONE, ()), "b": (ONE, ())}), True)

    def test_truths_are_no_numbers(self):
        case = case_of([pack("a", (1, 0, 0), features=(("f", (), ()),))], (("a", EVERY, ("f",), True),))
        self.assertIs(is_plan(case, {"a": ((1, 0, 0), ("f",))}), True)
        for value in ({"a": ((True, 0, 0), ("f",))}, {"a": ((1, False, 0), ("f",))}, {"a": ([1, 0, 0], ("f",))},
                      {"a": [(1, 0, 0), ("f",)]}, {"a": ((1, 0, 0), ["f"])}, {"a": ((1, 0, 0), ("f", "f"))},
                      {"a": ((1, 0, 0), ())}, {"a": ((1, 0, 0), ("f", "g"))}, {"a": (TWO, ("f",))}, {}, {"b": (ONE, ())}):
            self.assertIs(is_plan(case, value), False, value)

    def test_names_and_versions_that_no_pack_has(self):
        case = case_of([pack("a")], asked("a", "b"))
        for value in ({"a": (ONE, ()), "b": (ONE, ())}, {"a": (THREE, ())}, {"a": (ONE, ())}, {"zz": (ONE, ())}):
            self.assertIs(is_plan(case, value), False)

    def test_any_value(self):
        for value in values():
            self.assertIs(is_plan(case_of([], ()), value), same(value, {}))
            self.assertIs(is_plan(case_of([pack("a")], asked("a")), value), False)

    def test_any_lock(self):
        for seed in range(200):
            case = some_case(seed)
            self.assertTrue(is_lock(case[2]))
            choice = {name: case[2][name][0] for name in case[2]}
            known = all(any(one[:2] == (name, choice[name]) for one in case[0][0]) for name in choice)
            self.assertIs(is_plan(case, case[2]), known and slow.plan(case, choice) == case[2])


if __name__ == "__main__":
    unittest.main()
