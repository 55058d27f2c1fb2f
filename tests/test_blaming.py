"""[28]: blame, behind each narrowing that fails."""

import unittest

from packsworn.blaming import blame
from packsworn.judge import clauses_of, is_derivation, is_none_paper
from packsworn.narrowing import narrowed
from tests import papers
from tests.kinds import calls_alike, same
from tests.samples import EVERY, ONE, THREE, TWO
from tests.small import LATE, asked, case_of, pack
from tests.test_narrowing import as_told, chosen


class TestBlame(unittest.TestCase):
    def test_behind_each_failing(self):
        many = joins = 0
        for case, plans, axioms, choices, chance in chosen():
            for _, trail, failed in (narrowed(case, choices), as_told(papers.narrowed(case, choices, chance))):
                if failed is None:
                    continue
                steps = calls_alike(self, blame, case, choices, trail, failed)
                self.assertIs(is_derivation(case, steps), True)
                last = clauses_of(case, steps)[-1]
                self.assertTrue(same(last, papers.judged(case, steps, axioms)[-1]))
                self.assertTrue(papers.fails_on(last, choices), (case, choices, last))
                self.assertEqual([plan for plan in plans if papers.is_kept(choices, plan)], [])
                told = [failed] + [name for _, name in trail]
                self.assertTrue(all(step[1] in told for step in steps if step[0] == "axiom"))
                many += 1
                joins += any(step[0] == "join" for step in steps)
        self.assertGreater(many, 500)
        self.assertGreater(joins, 200)

    def test_without_choices(self):
        """Blame of nothing chosen is a paper that there is no plan."""
        many = 0
        for case, _, axioms, choices, _ in chosen():
            _, trail, failed = narrowed(case, {})
            if not choices and failed is not None:
                steps = blame(case, {}, trail, failed)
                self.assertIs(is_none_paper(case, steps), True)
                many += 1
        self.assertGreater(many, 50)

    def test_axiom_alone(self):
        case = case_of([pack("a"), pack("a", TWO)], (("a", LATE, (), True),))
        name = ("range", ("wish", 0))
        self.assertEqual(blame(case, {("a",): ONE}, (), name), (("axiom", name),))

    def test_chain(self):
        case = case_of([pack("a", needs=asked("b")), pack("b", needs=(("c", LATE, (), True),)), pack("c")], asked("a"))
        steps = blame(case, {("a",): ONE}, ((("b",), ("range", ("need", "a", ONE, 0))),), ("range", ("need", "b", ONE, 0)))
        self.assertEqual(steps, (("axiom", ("range", ("need", "b", ONE, 0))), ("axiom", ("range", ("need", "a", ONE, 0))), ("join", 0, 1, ("b",))))
        self.assertEqual(clauses_of(case, steps)[-1], ((("a",), (None,)),))

    def test_what_did_not_matter_is_not_joined(self):
        case = case_of([pack("a", needs=asked("b")), pack("b", needs=(("c", LATE, (), True),)), pack("c"), pack("d")], asked("a", "d"))
        trail = ((("d",), ("range", ("wish", 1))), (("b",), ("range", ("need", "a", ONE, 0))))
        steps = blame(case, {("a",): ONE}, trail, ("range", ("need", "b", ONE, 0)))
        self.assertEqual(clauses_of(case, steps)[-1], ((("a",), (None,)),))
        self.assertNotIn(("axiom", ("range", ("wish", 1))), steps)

    def test_other_options_of_a_variable_are_not_joined(self):
        packs = [pack("a"), pack("a", TWO), pack("a", THREE)]
        case = case_of(packs, (("a", ((TWO, THREE),), (), True),), (("a", TWO), ("a", THREE)))
        wish, two, three = ("range", ("wish", 0)), ("withdrawn", "a", TWO), ("withdrawn", "a", THREE)
        steps = blame(case, {}, ((("a",), two), (("a",), three)), wish)
        self.assertEqual(steps, (("axiom", wish), ("axiom", two), ("join", 0, 1, ("a",))))
        self.assertEqual(clauses_of(case, steps)[-1], ())

    def test_features(self):
        fast = pack("a", features=(("f", ("g",), ()), ("g", (), (("b", LATE, (), True),))))
        case = case_of([fast, pack("b")], (("a", EVERY, ("f",), True),))
        for choices in ({}, {("a", "f"): True}, {("a", "g"): True, ("a",): ONE}, {("a", "g"): False}, {("a",): None}):
            _, trail, failed = narrowed(case, choices)
            last = clauses_of(case, blame(case, choices, trail, failed))[-1]
            self.assertTrue(papers.fails_on(last, choices))


if __name__ == "__main__":
    unittest.main()
