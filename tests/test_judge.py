"""[26] and, of [7], papers: read line by line, against the definitions told slowly."""

import random
import unittest

from packsworn.judge import (axioms_used, clauses_of, is_derivation, is_first_paper, is_none_paper, passed, trimmed)
from packsworn.solver import answer
from tests import papers, slow
from tests.kinds import bent, calls_alike, same, values
from tests.samples import EVERY, ONE, THREE, TWO
from tests.small import EMPTY, asked, case_of, cases, pack, rows
from tests.test_axioms import some_loop

A, B = ("axiom", ("range", ("wish", 0))), ("axiom", ("range", ("need", "app", ONE, 0)))
NEED = ("tree", ((TWO, None),), (), True)
SPARE = case_of([pack("app", ONE, (NEED,)), pack("tree")], asked("app"))
MORE = case_of([pack("app", ONE, (NEED,)), pack("tree"), pack("tree", TWO)], asked("app"))
JOIN = ("join", 0, 1, ("app",))


def some_derivation(chance, case, axioms):
    """Return a derivation of some axioms, loops among them, and joins of any steps ahead."""
    steps, clauses = [], []
    for _ in range(chance.randint(0, 14)):
        name = chance.choice(sorted(axioms))
        loop = some_loop(chance, case)
        its = papers.loop(case, loop)
        step, clause = ("axiom", name), axioms[name]
        if chance.random() < 0.2 and its is not None:
            step, clause = ("axiom", loop), its
        if clauses and chance.random() < 0.6:
            one, other = chance.randrange(len(clauses)), chance.randrange(len(clauses))
            both = [variable for variable in dict(clauses[one]) if variable in dict(clauses[other])]
            if both:
                variable = chance.choice(both)
                step, clause = ("join", one, other, variable), papers.join(clauses[one], clauses[other], variable)
        steps.append(step)
        clauses.append(clause)
    return tuple(steps), tuple(clauses)


def derivations(many):
    """Return (case, plans, axioms, steps, clauses, chance) for derivations of the small cases."""
    found = []
    for at, (case, plans, axioms) in enumerate(rows()):
        chance = random.Random(at)
        for _ in range(many if axioms else 0):
            steps, clauses = some_derivation(chance, case, axioms)
            found.append((case, plans, axioms, steps, clauses, chance))
    return found


def slowly_trimmed(steps, kept):
    """Return what trimmed is to return, told by what each step stands for."""
    shapes = []
    for step in steps:
        shapes.append(("join", shapes[step[1]], shapes[step[2]], step[3]) if step[0] == "join" else step)
    needed, todo = set(), list(kept)
    while todo:
        at = todo.pop()
        needed.add(at)
        todo += list(steps[at][1:3]) if steps[at][0] == "join" else []
    row = []
    for at in sorted(needed):
        if shapes[at] not in row:
            row.append(shapes[at])
    told = [("join", row.index(shape[1]), row.index(shape[2]), shape[3]) if shape[0] == "join" else shape for shape in row]
    return tuple(told), tuple(row.index(shapes[at]) for at in kept)


class TestDerivations(unittest.TestCase):
    def test_clauses(self):
        for case, plans, _, steps, clauses, _ in derivations(2):
            self.assertIs(calls_alike(self, is_derivation, case, steps), True)
            self.assertTrue(same(calls_alike(self, clauses_of, case, steps), clauses))
            self.assertIs(is_none_paper(case, steps), bool(clauses) and clauses[-1] == ())
            for plan in plans:
                self.assertTrue(all(papers.holds(clause, plan) for clause in clauses))

    def test_empty_derivation(self):
        for case in (EMPTY, SPARE, MORE):
            self.assertEqual([is_derivation(case, ()), clauses_of(case, ()), is_none_paper(case, ())], [True, (), False])
        self.assertEqual([axioms_used(()), trimmed((), ()), trimmed((), [])], [[], ((), ()), ((), ())])

    def test_axiom_that_is_the_empty_clause(self):
        case = case_of([], asked("a"))
        self.assertEqual([is_none_paper(case, (A,)), is_none_paper(case, (A, A)), clauses_of(case, (A,))], [True, True, ((),)])

    def test_empty_clause_that_is_not_the_last(self):
        case = case_of([pack("a")], asked("b", "a"))
        steps = (A, ("axiom", ("range", ("wish", 1))))
        self.assertEqual([is_none_paper(case, steps), is_none_paper(case, steps[::-1]), is_derivation(case, steps)], [False, True, True])

    def test_joins(self):
        self.assertIs(is_none_paper(SPARE, (A, B, JOIN)), True)
        itself = ("join", 1, 1, ("app",))
        self.assertEqual(clauses_of(MORE, (A, B, itself))[2], clauses_of(MORE, (B,))[0])
        bad = [("join", 0, 2, ("app",)), ("join", 2, 0, ("app",)), ("join", 0, 3, ("app",)), ("join", -1, 0, ("app",)),
               ("join", 0, 1, ("tree",)), ("join", 0, 1, ("zz",)), ("join", 0, 1, ["app"]), ("join", 0, 1, "app"), ("join", 0, 1),
               ("join", False, 1, ("app",)), ("join", 0, True, ("app",)), ("join", 0, 1, ("app",), 0), ["join", 0, 1, ("app",)],
               ("joins", 0, 1, ("app",)), ("join", "0", 1, ("app",)), ("join", 0, None, ("app",)), ("join", 0, 10 ** 39, ("app",))]
        for step in bad:
            self.assertIs(is_derivation(MORE, (A, B, step)), False, step)
            self.assertIs(is_none_paper(SPARE, (A, B, step)), False, step)
            self.assertIs(is_derivation(MORE, (step, A, B)), False, step)
        self.assertIs(is_derivation(MORE, (JOIN, A, B)), False)

    def test_what_a_join_has_left_out(self):
        self.assertIs(is_derivation(MORE, (A, B, JOIN, ("join", 2, 1, ("app",)))), False)
        self.assertIs(is_derivation(MORE, (A, B, JOIN, ("join", 2, 1, ("tree",)))), True)

    def test_bent(self):
        seen = {True: 0, False: 0}
        for case, _, axioms, steps, _, _ in derivations(1)[::16]:
            for value in bent(steps[:5]):
                told = is_derivation(case, value)
                found = papers.judged(case, value, axioms)
                self.assertIs(told, found is not None, value)
                self.assertIs(is_none_paper(case, value), bool(found) and found[-1] == ())
                seen[told] += 1
        self.assertGreater(min(seen.values()), 50)

    def test_any_value(self):
        for value in values():
            for one in (value, (value,), (A, value), (("axiom", value),), (A, B, ("join", 0, 1, value)), (A, ("join", value, 0, ("app",)))):
                told = papers.judged(SPARE, one)
                self.assertIs(is_derivation(SPARE, one), told is not None, repr(one)[:80])
                self.assertIs(is_none_paper(SPARE, one), bool(told) and told[-1] == ())

    def test_axioms_used(self):
        for _, _, _, steps, _, _ in derivations(2):
            wanted = sorted({step[1] for step in steps if step[0] == "axiom"}, key=papers.order)
            self.assertTrue(same(calls_alike(self, axioms_used, steps), wanted))
        loops = [("loop", (("a",),), ("a",), ((("b",), option),)) for option in (ONE, None, TWO)]
        told = axioms_used(tuple(("axiom", loop) for loop in loops + loops))
        self.assertEqual(told, [loops[1], loops[0], loops[2]])


class TestTrimmed(unittest.TestCase):
    def test_against_shapes(self):
        for case, _, _, steps, clauses, chance in derivations(2):
            kept = [chance.randrange(len(steps)) for _ in range(chance.randint(0, 3) if steps else 0)]
            for given in (kept, tuple(kept)):
                found = calls_alike(self, trimmed, steps, given)
                self.assertTrue(same(found, slowly_trimmed(steps, kept)), (steps, kept))
            left, places = found
            told = clauses_of(case, left)
            self.assertEqual([told[place] for place in places], [clauses[at] for at in kept])
            self.assertTrue(same(trimmed(left, places), found))

    def test_by_hand(self):
        self.assertEqual(trimmed((A, B, A, JOIN, ("join", 2, 1, ("app",))), [4, 3]), ((A, B, JOIN), (2, 2)))
        self.assertEqual(trimmed((A, B, JOIN), [1]), ((B,), (0,)))
        self.assertEqual(trimmed((A, B, JOIN), (2, 0, 2)), ((A, B, JOIN), (2, 0, 2)))
        self.assertEqual(trimmed((A, B, JOIN), ()), ((), ()))
        self.assertEqual(trimmed((B, A, ("join", 1, 0, ("app",))), [2]), ((B, A, ("join", 1, 0, ("app",))), (2,)))


class TestFirstPapers(unittest.TestCase):
    def test_passed(self):
        for case, plans, _ in rows():
            for plan in plans[:4]:
                self.assertTrue(same(calls_alike(self, passed, case, plan), papers.passed(case, plan)))

    def test_passed_by_hand(self):
        packs = [pack(name, version) for name in "ab" for version in (ONE, TWO, THREE)]
        told = {"newest": [("b", THREE), ("b", TWO)], "oldest": [], "steady": [("b", THREE), ("b", TWO)]}
        for mode, wanted in told.items():
            self.assertEqual(passed(case_of(packs, asked("b"), mode=mode), {"b": (ONE, ())}), wanted)
        case = case_of(packs, asked("b"), lock={"b": (TWO, ()), "a": (ONE, ())}, mode="steady")
        self.assertEqual(passed(case, {"b": (ONE, ())}), [("b", TWO), ("b", THREE), ("a", ONE), ("a", THREE), ("a", TWO)])

    def test_papers_of_answers(self):
        """There is a paper exactly if there is no plan; of the plans just the first one has a paper."""
        seen = {"plan": 0, "none": 0}
        for case, plans, axioms in rows():
            found = answer(case)
            seen[found[0]] += 1
            if found[0] == "none":
                self.assertEqual(plans, [])
                self.assertIs(calls_alike(self, is_none_paper, case, found[1]), True)
                self.assertIs(papers.is_none_paper(case, found[1], axioms), True)
                continue
            self.assertIs(calls_alike(self, is_first_paper, case, plans[0], found[2]), True)
            self.assertIs(papers.is_first_paper(case, plans[0], found[2], axioms), True)
            self.assertIs(is_none_paper(case, found[2][0]), False)
            for plan in plans[1:4]:
                self.assertIs(is_first_paper(case, plan, found[2]), False)
        self.assertGreater(min(seen.values()), 100)

    def test_marks(self):
        packs = [pack("a", version, (("b", ((version, None),), (), True),)) for version in (TWO, THREE)] + [pack("a"), pack("b")]
        case = case_of(packs, asked("a"))
        word, plan, (steps, marks) = answer(case)
        self.assertEqual([word, plan, len(marks), len(set(marks))], ["plan", {"a": (ONE, ())}, 2, 2])
        for other in (marks[:1], marks + marks[:1], marks[::-1], (), list(marks), (marks[0], len(steps)), (marks[0], -1),
                      (marks[0], None), marks[:1] * 2, (float(marks[0]), marks[1]), None, marks[0]):
            self.assertIs(is_first_paper(case, plan, (steps, other)), False, other)
        self.assertIs(is_first_paper(case, plan, (steps, marks)), True)
        self.assertIs(is_first_paper(case, plan, (steps + steps, marks)), True)
        for value in ((steps,), (steps, marks, ()), [steps, marks], (list(steps), marks), (marks, steps), steps, (steps[:-1], marks)):
            self.assertIs(is_first_paper(case, plan, value), False, value)

    def test_mark_of_a_truth(self):
        case = case_of([pack("a", TWO, asked("b")), pack("a")], asked("a"))
        plan, line = {"a": (ONE, ())}, ("axiom", ("range", ("need", "a", TWO, 0)))
        wish = ("axiom", ("range", ("wish", 0)))
        self.assertEqual(clauses_of(case, (line,)), (((("a",), (None, ONE)),),))
        for steps, mark, wanted in (((line,), 0, True), ((line,), False, False), ((wish, line), 1, True), ((wish, line), True, False),
                                    ((wish, line), 0, False)):
            self.assertIs(is_first_paper(case, plan, (steps, (mark,))), wanted)

    def test_what_a_mark_may_speak_of(self):
        """Names ahead, without what the plan gives them, and the name without the option; no features, no names behind."""
        low = pack("low", features=(("f", (), ()),))
        packs = [pack("top", TWO, (("low", EVERY, ("f",), True),)), pack("top"), low, pack("low", TWO), pack("mid")]
        case = case_of(packs, asked("top", "low"))
        plan = {"top": (TWO, ()), "low": (ONE, ("f",))}
        known, named = ("axiom", ("known", "low", TWO, "f")), ("axiom", ("feature", ("need", "top", TWO, 0), "f"))
        join = ("join", 0, 1, ("low", "f"))
        self.assertEqual(passed(case, plan), [("low", TWO)])
        self.assertIs(is_first_paper(case, plan, ((known, named, join), (2,))), True)
        self.assertIs(is_first_paper(case, plan, ((known, named, join), (0,))), False)
        self.assertIs(is_first_paper(case, plan, ((known, named, join), (1,))), False)
        other = case_of(packs, asked("low", "top"))
        self.assertIs(is_first_paper(other, {"low": (TWO, ()), "top": (ONE, ())}, ((known, named, join), (2,))), True)
        self.assertIs(is_first_paper(other, {"low": (ONE, ()), "top": (ONE, ())}, ((known, named, join), (2, 2))), False)

    def test_bent(self):
        seen = {True: 0, False: 0}
        for case, plans, axioms in rows()[::5]:
            if plans:
                paper = answer(case)[2]
                for value in bent((paper[0][:6], paper[1])) + bent(paper[1]) + [(paper[0], marks) for marks in bent(paper[1])]:
                    told = is_first_paper(case, plans[0], value)
                    self.assertIs(told, papers.is_first_paper(case, plans[0], value, axioms), value)
                    seen[told] += 1
        self.assertGreater(min(seen.values()), 20)

    def test_any_value(self):
        plan = {"app": (ONE, ()), "tree": (TWO, ())}
        for value in values():
            for one in (value, (value, (0,)), ((B,), value), ((B,), (value,)), ((B, value), (0,))):
                self.assertIs(is_first_paper(MORE, plan, one), same(one, ((B,), (0,))), repr(one)[:80])
            for one in (value, (value, ()), ((), value)):
                self.assertIs(is_first_paper(EMPTY, {}, one), same(one, ((), ())), repr(one)[:80])


if __name__ == "__main__":
    unittest.main()
