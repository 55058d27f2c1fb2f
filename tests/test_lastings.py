"""[46] and [10]: long clauses, against a slow reading, and against all plans of later cases."""

import random
import unittest

from packsworn.lastings import helpers, is_later, long_clause, long_clauses, long_holds, long_joined, still_none, what_can_help
from packsworn.solver import answer
from tests import lasts, papers, slow
from tests.kinds import bent, calls_alike, same, values
from tests.samples import EVERY, ONE, THREE, TWO
from tests.small import EARLY, LATE, asked, case_of, pack, rows

LAST = lasts.LAST
ALL_BUT_ONE = ((lasts.FIRST, ONE), ((1, 0, 1), None))
CHAIN = case_of([pack("app", needs=(("tree", LATE, (), True),)), pack("tree")], asked("app"))
STEPS = (("axiom", ("range", ("wish", 0))), ("axiom", ("range", ("need", "app", ONE, 0))), ("join", 0, 1, ("app",)))


def steps_of(case):
    """Return the derivation of the paper of a case."""
    found = answer(case)
    return found[1] if found[0] == "none" else found[2][0]


def none_cases():
    return [(at, case) for at, (case, plans, _) in enumerate(rows()) if not plans]


class TestLongClause(unittest.TestCase):
    def check(self, case, name):
        found = calls_alike(self, long_clause, case, name)
        told = lasts.rows_of(case, name)
        self.assertTrue(lasts.is_what_is_said(case, found, lambda variable, option: lasts.says(told, variable, option)), (case, name, found))

    def test_all_axioms(self):
        seen = {}
        for case, _, axioms in rows():
            for name in axioms:
                self.check(case, name)
                seen[name[0]] = seen.get(name[0], 0) + 1
        self.assertEqual(len(seen), 10)
        self.assertGreater(min(seen.values()), 10)

    def test_loops(self):
        seen = {True: 0, False: 0}
        for at, (case, _, _) in enumerate(rows()):
            chance = random.Random(at)
            for _ in range(6 if papers.variables(case) else 0):
                name = lasts.some_loop(chance, case)
                good = papers.loop(case, name) is not None
                seen[good] += 1
                if good:
                    self.check(case, name)
                else:
                    self.assertIsNone(long_clause(case, name))
        self.assertGreater(min(seen.values()), 100)

    def test_of_any_value(self):
        for thing in values():
            self.assertIsNone(long_clause(CHAIN, thing))
        for case, _, axioms in rows()[:12]:
            for name in list(axioms)[:8]:
                for thing in bent(name):
                    wanted = papers.axiom(case, thing, axioms)
                    self.assertIs(long_clause(case, thing) is None, wanted is None, thing)

    def test_by_hand(self):
        packs = [pack("a", TWO, needs=(("b", LATE, ("f",), False),), peers=(("b", EARLY), ("z", ())), bars=(("b", LATE), ("a", EVERY), ("z", ())),
                      features=(("g", ("h",), ()), ("h", (), ())), files=(("x", ""),)), pack("b", ONE, features=(("f", (), ()),), defaults=("f",), files=(("x/y", ""),))]
        case = case_of(packs, asked("a"), (("a", TWO),))
        off = (("a",), (True, ((lasts.FIRST, TWO), ((2, 0, 1), None))))
        line = ("need", "a", TWO, 0)
        told = {
            ("range", ("wish", 0)): ((("a",), (False, EVERY)),), ("range", line): (off, (("b",), (False, LATE))), ("feature", line, "f"): (off, (("b", "f"), (True,))),
            ("default", line, ONE, "f"): (off, (("b",), (True, ALL_BUT_ONE)), (("b", "f"), (True,))),
            ("also", "a", TWO, "g", "h"): (off, (("a", "g"), (False,)), (("a", "h"), (True,))),
            ("absent", "b", "f"): ((("b",), (False, EVERY)), (("b", "f"), (False,))), ("peer", "a", TWO, 0): (off, (("b",), (False, EARLY))),
            ("peer", "a", TWO, 1): (off,), ("bar", "a", TWO, 0): (off, (("b",), (True, EARLY))), ("bar", "a", TWO, 1): (off,),
            ("bar", "a", TWO, 2): (off, (("z",), (True, EVERY))), ("clash", "a", TWO, "b", ONE): (off, (("b",), (True, ALL_BUT_ONE))), ("withdrawn", "a", TWO): (off,),
        }
        for name, wanted in told.items():
            self.assertTrue(same(long_clause(case, name), wanted), (name, long_clause(case, name)))
        known = case_of([pack("a", features=(("g", (), ()),)), pack("a", TWO)], asked("a"))
        self.assertEqual(long_clause(known, ("known", "a", TWO, "g")), (off, (("a", "g"), (False,))))

    def test_need_of_its_own_name(self):
        case = case_of([pack("a", needs=(("a", LATE, (), True),)), pack("a", TWO, needs=(("a", EVERY, (), True),))], asked("a"))
        self.assertEqual(long_clause(case, ("range", ("need", "a", ONE, 0))), ((("a",), (True, ALL_BUT_ONE)),))
        self.assertEqual(long_clause(case, ("range", ("need", "a", TWO, 0))), ((("a",), (True, EVERY)),))

    def test_loops_by_hand(self):
        case = case_of([pack("a", needs=asked("b")), pack("b", needs=asked("a")), pack("b", LAST), pack("c", needs=asked("b"))], asked("c"))
        name = ("loop", (("a",), ("b",)), ("b",), ((("c",), ONE),))
        self.assertEqual(long_clause(case, name), ((("b",), (True, ())), (("c",), (False, EVERY))))
        more = ("loop", (("a",),), ("a",), ((("b",), None), (("b",), ONE)))
        self.assertEqual(long_clause(case, more), ((("a",), (True, ())), (("b",), (True, ((lasts.FIRST, LAST),))), (("c",), (False, ALL_BUT_ONE))))
        self.assertIsNone(long_clause(case, ("loop", (("a",),), ("a",), ())))
        loud = case_of([pack("a", features=(("f", ("g",), ()), ("g", ("f",), ())))], ())
        name = ("loop", (("a", "f"), ("a", "g")), ("a", "f"), ())
        self.assertEqual(long_clause(loud, name), ((("a",), (False, ALL_BUT_ONE)), (("a", "f"), (False,))))
        name = ("loop", (("a",), ("a", "f"), ("a", "g")), ("a",), ((("a", "f"), True),))
        self.assertEqual(long_clause(loud, name), ((("a",), (True, ())), (("a", "f"), (True,))))
        alone = case_of([], asked("a"))
        self.assertIsNone(long_clause(alone, ("loop", (("a",),), ("a",), ())))


class TestJoins(unittest.TestCase):
    def test_against_asking_each_version(self):
        many = 0
        for at, (case, _, axioms) in enumerate(rows()):
            chance, clauses = random.Random(at), [long_clause(case, name) for name in axioms]
            for _ in range(10 if clauses else 0):
                one, other = chance.choice(clauses), chance.choice(clauses)
                for variable in sorted(set(dict(one)) & set(dict(other))):
                    found = calls_alike(self, long_joined, one, other, variable)
                    self.assertTrue(lasts.is_what_is_said(case, found, lasts.joined_says(one, other, variable)))
                    # Joins are joined again.
                    clauses.append(found)
                    many += 1
        self.assertGreater(many, 1000)

    def test_by_hand(self):
        one = ((("a",), (True, EARLY)), (("a", "f"), (False,)), (("b",), (False, ((ONE, TWO),))))
        other = ((("a",), (True, LATE)), (("a", "f"), (True,)), (("b",), (True, ())))
        self.assertEqual(long_joined(one, other, ("a",)), ((("a",), (True, ())), (("a", "f"), (False, True)), (("b",), (True, ((ONE, TWO),)))))
        self.assertEqual(long_joined(one, other, ("a", "f")), ((("a",), (True, EVERY)), (("b",), (True, ((ONE, TWO),)))))
        self.assertEqual(long_joined(one, other, ("b",)), ((("a",), (True, EVERY)), (("a", "f"), (False, True))))
        self.assertEqual(long_joined(((("a",), (False, EARLY)),), ((("a",), (False, LATE)),), ("a",)), ())
        self.assertEqual(long_joined(((("a", "f"), (False, True)),), ((("a", "f"), (True,)),), ("a", "f")), ((("a", "f"), (True,)),))

    def test_of_derivations(self):
        many = 0
        for case, _, _ in rows():
            steps = steps_of(case)
            found = calls_alike(self, long_clauses, case, steps)
            self.assertEqual(len(found), len(steps))
            for clause, step in zip(found, steps):
                wanted = long_clause(case, step[1]) if step[0] == "axiom" else long_joined(found[step[1]], found[step[2]], step[3])
                self.assertTrue(same(clause, wanted))
                many += step[0] == "join"
            # Of the versions that there are, a long clause has just those that the clause has.
            for long_one, plain in zip(found, papers.judged(case, steps, papers.axioms(case))):
                told = [(variable, tuple(option for option in papers.variables(case)[variable] if lasts.is_given(options, option))) for variable, options in long_one]
                self.assertEqual(papers.clause(told), plain)
        self.assertGreater(many, 200)
        self.assertEqual(long_clauses(CHAIN, ()), ())

    def test_holds(self):
        told = [((("a",), (True, ())), {}, True), ((("a",), (False, EVERY)), {}, False), ((("a",), (False, EVERY)), {"a": (LAST, ())}, True),
                ((("a",), (True, EARLY)), {"a": (TWO, ())}, False), ((("a",), (True, EARLY)), {"a": (ONE, ())}, True), ((("a",), (False, LATE)), {"b": (TWO, ())}, False),
                ((("a", "f"), (False,)), {}, True), ((("a", "f"), (True,)), {}, False), ((("a", "f"), (True,)), {"a": (ONE, ("f",))}, True),
                ((("a", "f"), (False,)), {"a": (ONE, ("f",))}, False), ((("a", "f"), (False,)), {"a": (ONE, ("g",))}, True), ((("a", "f"), (False, True)), {}, True)]
        for part, plan, wanted in told:
            self.assertIs(calls_alike(self, long_holds, (part,), plan), wanted)
            self.assertIs(long_holds((part, (("q",), (False, LATE))), plan), wanted)
        self.assertIs(long_holds((), {"a": (ONE, ())}), False)
        self.assertIs(long_holds(((("a",), (False, EARLY)), (("b",), (True, ()))), {"b": (ONE, ()), "a": (ONE, ())}), True)


class TestLaterCases(unittest.TestCase):
    def test_axioms_and_joins_hold(self):
        seen = {"plans": 0, "new": 0}
        for at, (case, _, axioms) in enumerate(rows()):
            chance = random.Random(at)
            clauses = [long_clause(case, name) for name in axioms] + list(long_clauses(case, steps_of(case)))
            loops = [lasts.some_loop(chance, case) for _ in range(6 if papers.variables(case) else 0)]
            clauses += [long_clause(case, name) for name in loops if papers.loop(case, name) is not None]
            for other, plans in lasts.later_cases(at, case, 3, 60):
                self.assertIs(is_later(case, other), True)
                for plan in plans:
                    for clause in clauses:
                        self.assertIs(long_holds(clause, plan), True, (case, other, plan, clause))
                    seen["plans"] += 1
                    seen["new"] += any((name, plan[name][0]) not in {one[:2] for one in case[0][0]} for name in plan)
        self.assertGreater(min(seen.values()), 60)

    def test_none_papers(self):
        seen = {"still": 0, "plan": 0, "helped in vain": 0}
        for at, case in none_cases():
            steps = answer(case)[1]
            ranges = calls_alike(self, what_can_help, case, steps)
            self.assertEqual(list(ranges), sorted(ranges))
            self.assertNotIn((), list(ranges.values()))
            self.assertTrue(same(long_clauses(case, steps)[-1], tuple(((name,), (False, ranges[name])) for name in ranges)))
            for name, version in [one[:2] for one in case[0][0]]:
                self.assertFalse(name in ranges and slow.is_plainly_in(version, ranges[name]))
            for other, plans in lasts.later_cases(at, case, 12, 40):
                wanted = tuple(one[:2] for one in other[0][0] if one[0] in ranges and slow.is_plainly_in(one[1], ranges[one[0]]))
                self.assertTrue(same(calls_alike(self, helpers, case, steps, other), wanted))
                self.assertIs(calls_alike(self, still_none, case, steps, other), wanted == ())
                for plan in plans:
                    self.assertTrue(any((name, plan[name][0]) in wanted for name in plan))
                if not wanted:
                    self.assertEqual(plans, [])
                seen["still" if not wanted else "plan" if plans else "helped in vain"] += 1
        self.assertGreater(min(seen.values()), 50)

    def test_papers_go_on_holding(self):
        many = 0
        for at, case in none_cases():
            steps = answer(case)[1]
            for other, plans in lasts.later_cases(at, case, 8, 40):
                if papers.is_none_paper(other, steps):
                    self.assertEqual([plans, answer(other)[0]], [[], "none"])
                    many += len(other[0][0]) > len(case[0][0])
        self.assertGreater(many, 30)

    def test_is_later(self):
        for seed, (case, _, _) in enumerate(rows()):
            self.assertIs(is_later(case, case), True)
            other = lasts.later_case(random.Random(seed), case)
            self.assertIs(calls_alike(self, is_later, case, other), True)
            self.assertIs(is_later(other, case), other[0] == case[0])
        case = case_of([pack("a"), pack("b")], asked("a"), (("a", ONE),), {"a": (ONE, ()), "b": (TWO, ())})
        registry, wish, lock, mode = case
        more = (registry[0] + (pack("c"),), registry[1] + (("b", ONE), ("c", ONE)))
        self.assertIs(is_later(case, (more, wish, {"b": (TWO, ()), "a": (ONE, ())}, "oldest")), True)
        other_pack = (pack("a", needs=asked("b")), pack("b"))
        for other in ((registry, wish + wish, lock, mode), (registry, (), lock, mode), (registry, wish, {}, mode), (registry, wish, {**lock, "c": (ONE, ())}, mode),
                      (registry, wish, {**lock, "b": (ONE, ())}, mode), ((registry[0], ()), wish, lock, mode), ((registry[0][:1], registry[1]), wish, lock, mode),
                      ((other_pack, registry[1]), wish, lock, mode), (((pack("a", TWO), pack("b")), ()), wish, lock, mode)):
            self.assertIs(calls_alike(self, is_later, case, other), False)
            self.assertIs(is_later(other, other), True)

    def test_by_hand(self):
        self.assertEqual(what_can_help(CHAIN, STEPS), {"app": ALL_BUT_ONE, "tree": LATE})
        registry = CHAIN[0]

        def with_packs(*more):
            return (tuple(sorted(registry[0] + more)), ()), CHAIN[1], {}, "oldest"
        told = [(with_packs(), ()), (with_packs(pack("tree", (1, 9, 9))), ()), (with_packs(pack("tree", TWO)), (("tree", TWO),)), (with_packs(pack("z", TWO)), ()),
                (with_packs(pack("tree", LAST), pack("app", (0, 0, 0)), pack("b")), (("app", (0, 0, 0)), ("tree", LAST))),
                (with_packs(pack("app", (1, 0, 1))), (("app", (1, 0, 1)),))]
        for other, wanted in told:
            self.assertEqual([helpers(CHAIN, STEPS, other), still_none(CHAIN, STEPS, other)], [wanted, wanted == ()])
        # Of any case: one that is not later is none of which it is told.
        for other in (case_of([], ()), case_of(registry[0], asked("app"), lock={"app": (ONE, ())}), case_of(registry[0][:1], asked("app")), case_of(registry[0], asked("tree"))):
            self.assertIs(still_none(CHAIN, STEPS, other), False)

    def test_nothing_can_help(self):
        case = case_of([pack("a")], (("a", (), (), True),))
        steps = (("axiom", ("range", ("wish", 0))),)
        self.assertEqual(what_can_help(case, steps), {})
        other = case_of([pack("a"), pack("a", TWO), pack("b", THREE)], case[1])
        self.assertEqual([helpers(case, steps, other), still_none(case, steps, other)], [(), True])

    def test_new_names_in_a_loop(self):
        # A pack of a new name can bring what a loop is about, but only if a version that is new leads to it.
        case = case_of([pack("a", needs=asked("b")), pack("b"), pack("c")], asked("c"))
        clause = long_clause(case, ("loop", (("a",), ("b",)), ("b",), ()))
        self.assertEqual(clause, ((("b",), (True, ())), (("c",), (False, ALL_BUT_ONE))))
        other = case_of(case[0][0] + (pack("c", TWO, needs=asked("new")), pack("new", needs=asked("a"))), asked("c"))
        plans = slow.plans(other)
        self.assertTrue(any("b" in plan for plan in plans))
        self.assertEqual([long_holds(clause, plan) for plan in plans], [True] * len(plans))


if __name__ == "__main__":
    unittest.main()
