"""[29], [7] and [8]: the solver, against all plans in order, and its papers, against the judge."""

import random
import time
import unittest

from packsworn.judge import clauses_of, is_derivation, is_first_paper, is_none_paper, trimmed
from packsworn.plans import is_plan
from packsworn.solver import answer, first_plan, going_on, is_answer
from tests import papers, slow
from tests.kinds import bent, calls_alike, same, values
from tests.large import crowded_case, idle_case, tight_case, wide_case
from tests.samples import EVERY, ONE, THREE, TWO
from tests.small import EMPTY, LATE, asked, case_of, pack, rows

MODES = ("newest", "oldest", "steady")


def is_small_paper(found):
    """Tell whether all steps of the paper of an answer are needed."""
    if found[0] == "none":
        return same(trimmed(found[1], [len(found[1]) - 1]), (found[1], (len(found[1]) - 1,)))
    return same(trimmed(found[2][0], found[2][1]), found[2])


class TestAnswer(unittest.TestCase):
    def check(self, case, plans, axioms):
        """Check the answer of a case against all its plans, the first one ahead; return whether there is one."""
        found = calls_alike(self, answer, case)
        self.assertTrue(same(calls_alike(self, first_plan, case), plans[0] if plans else None), case)
        if plans:
            self.assertEqual(found[0], "plan")
            self.assertTrue(same(found[1], plans[0]), case)
            self.assertEqual(list(found[1]), sorted(found[1]))
            self.assertIs(papers.is_first_paper(case, found[1], found[2], axioms), True, case)
        else:
            self.assertEqual(found[0], "none")
            self.assertIs(papers.is_none_paper(case, found[1], axioms), True, case)
        self.assertIs(calls_alike(self, is_answer, case, found), True)
        self.assertTrue(is_small_paper(found))
        return bool(plans)

    def test_against_all_plans(self):
        seen = {True: 0, False: 0}
        for case, plans, axioms in rows():
            seen[self.check(case, plans, axioms)] += 1
        self.assertGreater(min(seen.values()), 100)

    def test_all_modes(self):
        many = 0
        for (registry, wish, lock, mode), _, _ in rows():
            for other in MODES:
                case = (registry, wish, lock, other)
                if other != mode and slow.ways(case) <= 30:
                    self.check(case, slow.plans(case), papers.axioms(case))
                    many += 1
        self.assertGreater(many, 100)

    def test_lock_that_is_a_plan(self):
        many = 0
        for (registry, wish, _, _), plans, _ in rows():
            for plan in plans[:3]:
                turned = {name: plan[name] for name in reversed(list(plan))}
                case = (registry, wish, turned, "steady")
                found = answer(case)
                self.assertTrue(same(found[:2], ("plan", plan)))
                self.assertIs(is_first_paper(case, plan, found[2]), True)
                many += 1
        self.assertGreater(many, 100)

    def test_nothing(self):
        for mode in MODES:
            for case in (case_of([], (), mode=mode), case_of([pack("a"), pack("a", TWO)], (), mode=mode),
                         case_of([], (), lock={"a": (ONE, ())}, mode=mode)):
                self.assertTrue(same(answer(case)[:2], ("plan", {})))
                self.assertIs(is_answer(case, answer(case)), True)
        self.assertTrue(same(answer(EMPTY), ("plan", {}, ((), ()))))

    def test_name_that_no_pack_has(self):
        case = case_of([pack("a", needs=asked("b"))], asked("a"))
        self.assertEqual(answer(case)[0], "none")
        self.assertTrue(same(answer(case_of([], asked("b"))), ("none", (("axiom", ("range", ("wish", 0))),))))

    def test_ring_that_nobody_asks_for(self):
        ring = [pack("a", needs=asked("b")), pack("b", needs=asked("a")), pack("c"), pack("d", needs=asked("a"))]
        lock = {"a": (ONE, ()), "b": (ONE, ())}
        for wish, wanted in ((asked("c"), ["c"]), (asked("d"), ["a", "b", "d"]), ((), [])):
            case = case_of(ring, wish, lock=lock, mode="steady")
            self.assertEqual(sorted(answer(case)[1]), wanted)
            self.check(case, slow.plans(case), papers.axioms(case))

    def test_loop_of_features(self):
        loud = pack("a", features=(("f", ("g",), ()), ("g", ("f",), asked("b"))))
        case = case_of([loud, pack("b")], asked("a"), lock={"b": (ONE, ())}, mode="steady")
        self.check(case, slow.plans(case), papers.axioms(case))
        self.assertTrue(same(first_plan(case), {"a": (ONE, ())}))
        self.assertTrue(same(going_on(case, {("a", "g"): True})[0], "none"))

    def test_withdrawn(self):
        packs, gone = [pack("a"), pack("a", TWO)], (("a", TWO),)
        for lock, wanted in (({}, ONE), ({"a": (TWO, ("f",))}, TWO), ({"a": (ONE, ())}, ONE)):
            self.assertTrue(same(first_plan(case_of(packs, asked("a"), gone, lock)), {"a": (wanted, ())}))

    def test_unlike_plans_with_one_option_each(self):
        """What is liked best of a name decides, whatever it brings of the names behind."""
        packs = [pack("a", THREE, asked("b", "c", "d")), pack("a", TWO), pack("b"), pack("c"), pack("d")]
        self.assertEqual(sorted(first_plan(case_of(packs, asked("a")))), ["a", "b", "c", "d"])
        self.assertEqual(sorted(first_plan(case_of(packs, asked("a"), mode="oldest"))), ["a"])


class TestGoingOn(unittest.TestCase):
    def test_against_all_plans(self):
        seen = {"plan": 0, "none": 0}
        for at, (case, plans, axioms) in enumerate(rows()):
            chance = random.Random(at)
            for most in (0, 1, 1, 2, 4, 99):
                choices = papers.some_choices(chance, case, most)
                if plans and chance.random() < 0.3:
                    plan = chance.choice(plans)
                    choices = {variable: papers.gives(plan, variable) for variable in choices}
                found = calls_alike(self, going_on, case, choices)
                keeping = [plan for plan in plans if papers.is_kept(choices, plan)]
                seen[found[0]] += 1
                if keeping:
                    self.assertTrue(same(found, ("plan", keeping[0])), (case, choices))
                    self.assertEqual(list(found[1]), sorted(found[1]))
                else:
                    self.assertEqual([len(found), found[0], is_derivation(case, found[1])], [2, "none", True])
                    last = papers.judged(case, found[1], axioms)[-1]
                    self.assertTrue(papers.fails_on(last, choices), (case, choices, last))
                    self.assertTrue(is_small_paper(found))
        self.assertGreater(min(seen.values()), 400)

    def test_choices_in_any_order(self):
        for at, (case, _, _) in enumerate(rows()):
            choices = papers.some_choices(random.Random(at), case, 4)
            turned = {variable: choices[variable] for variable in sorted(choices)}
            self.assertTrue(same(going_on(case, turned), going_on(case, choices)))

    def test_feature_on_that_nobody_turns_on(self):
        fast = pack("a", features=(("f", (), asked("b")), ("g", (), ())))
        case = case_of([fast, pack("b")], asked("a"))
        word, steps = going_on(case, {("a", "f"): True})
        self.assertEqual(word, "none")
        self.assertTrue(same(clauses_of(case, steps)[-1], ((("a", "f"), (False,)),)))
        self.assertTrue(same(going_on(case, {("a", "f"): False, ("b",): None}), ("plan", {"a": (ONE, ())})))
        self.assertEqual(going_on(case, {("b",): ONE})[0], "none")

    def test_feature_off_that_is_needed(self):
        case = case_of([pack("a", features=(("f", (), ()),)), pack("a", TWO)], (("a", EVERY, ("f",), True),))
        self.assertTrue(same(going_on(case, {}), ("plan", {"a": (ONE, ("f",))})))
        self.assertEqual(going_on(case, {("a", "f"): False})[0], "none")
        self.assertEqual(going_on(case, {("a",): TWO})[0], "none")


class TestIsAnswer(unittest.TestCase):
    def test_bent(self):
        seen = {True: 0, False: 0}
        for case, plans, axioms in rows()[::9]:
            found = answer(case)
            for value in bent(found if found[0] == "none" else found[:2] + ((found[2][0][:5], found[2][1][:3]),)):
                wanted = type(value) is tuple and len(value) == 2 and same(value[0], "none") and papers.is_none_paper(case, value[1], axioms)
                if type(value) is tuple and len(value) == 3 and same(value[0], "plan"):
                    wanted = any(same(value[1], plan) for plan in plans) and papers.is_first_paper(case, value[1], value[2], axioms)
                self.assertIs(is_answer(case, value), wanted, value)
                seen[wanted] += 1
        self.assertGreater(min(seen.values()), 5)

    def test_other_words(self):
        case = case_of([pack("a")], asked("a"))
        word, plan, paper = answer(case)
        for value in (("none", plan, paper), ("plan", paper), ("plan", plan), [word, plan, paper], (word, plan, paper, 0), (True, plan, paper),
                      ("plan", {}, paper), ("plan", None, paper), ("plan", plan, None), ("plan", {"a": (TWO, ())}, paper), ("none", ()),
                      ("none", paper), ("none", paper[0]), ("plan", {"a": (ONE, ("f",))}, paper), ("plan", {"a": ((True, 0, 0), ())}, paper)):
            self.assertIs(is_answer(case, value), False, value)
        none = case_of([], asked("a"))
        steps = answer(none)[1]
        for value in (("plan", {}, (steps, ())), ("plan", steps), ("none", steps, ()), ["none", steps], ("none", list(steps)), ("none", ()), (None, steps)):
            self.assertIs(is_answer(none, value), False, value)
        self.assertIs(is_answer(none, ("none", steps + steps)), True)

    def test_plan_that_is_not_the_first(self):
        for case, plans, _ in rows():
            for plan in plans[1:3]:
                for paper in (((), ()), answer(case)[2]):
                    self.assertIs(is_answer(case, ("plan", plan, paper)), False)

    def test_keys_in_any_order(self):
        for case, plans, _ in rows():
            if plans:
                word, plan, paper = answer(case)
                self.assertIs(is_answer(case, (word, {name: plan[name] for name in reversed(list(plan))}, paper)), True)

    def test_any_value(self):
        case = case_of([pack("a")], asked("a"))
        for value in values():
            for one in (value, (value, {}, ((), ())), ("plan", value, ((), ())), ("plan", {}, value), ("none", value), (value, ())):
                self.assertIs(is_answer(case, one), False, repr(one)[:80])
                self.assertIs(is_answer(EMPTY, one), same(one, ("plan", {}, ((), ()))), repr(one)[:80])


class TestLarge(unittest.TestCase):
    def check(self, case, most):
        """Check that an answer comes in little time, and is one; return its word."""
        began = time.process_time()
        found = answer(case)
        self.assertLess(time.process_time() - began, most)
        self.assertIs(is_answer(case, found), True)
        self.assertTrue(is_small_paper(found))
        if found[0] == "plan":
            self.assertIs(is_plan(case, found[1]), True)
        return found[0]

    def test_wide(self):
        seen = {self.check(wide_case(seed, tight, most), 10) for seed in range(6) for tight, most in ((0.1, 1), (0.3, 2), (0.6, 5))}
        self.assertEqual(seen, {"plan", "none"})

    def test_tight(self):
        seen = {self.check(tight_case(seed, share), 20) for seed in range(8) for share in (0.5, 0.82, 0.88, 0.92)}
        self.assertEqual(seen, {"plan", "none"})

    def test_more_packs_than_can_stand_together(self):
        for mode in MODES:
            for many in (5, 6, 12):
                self.assertEqual(self.check(crowded_case(many, mode), 20), "plan" if many == 5 else "none")

    def test_lock_of_idle_rings(self):
        for many in (2, 12):
            self.assertEqual(self.check(idle_case(many), 10), "plan")
            self.assertEqual(first_plan(idle_case(many)), {})

    def test_lock_that_is_a_plan(self):
        for seed in range(6):
            registry, wish, _, _ = wide_case(seed, 0.1, 1)
            plan = first_plan((registry, wish, {}, "newest"))
            if plan is not None:
                self.assertTrue(same(answer((registry, wish, plan, "steady"))[1], plan))


if __name__ == "__main__":
    unittest.main()
