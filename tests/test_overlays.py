"""[19]: registries laid over one another and changed, beside dicts of one's own."""

import random
import unittest

from packsworn.errors import Doubled, NoPack
from packsworn.forms import is_registry
from packsworn.overlays import change_between, changed_by, laid_over, only_names
from tests.kinds import calls_alike, same
from tests.samples import EVERY, ONE, PLAIN, THREE, TWO, some_registry

NAMES = ["a", "b", "c"]
A1, A2, B1 = ("a", ONE, ()) + PLAIN, ("a", TWO, ()) + PLAIN, ("b", ONE, ()) + PLAIN
OTHER_A1 = ("a", ONE, (("b", EVERY, (), True),)) + PLAIN


def apart(registry):
    """Return a registry as a dict of packs and a set of what is withdrawn."""
    return {pack[:2]: pack for pack in registry[0]}, set(registry[1])


def together(packs, withdrawn):
    return tuple(packs[mark] for mark in sorted(packs)), tuple(sorted(withdrawn))


def some_pairs(many):
    """Return pairs of registries that have much in common."""
    for seed in range(many):
        chance = random.Random(seed)
        one = some_registry(chance, NAMES)
        packs, withdrawn = apart(some_registry(chance, NAMES) if seed % 3 else one)
        for pack in one[0]:
            if chance.random() < 0.4:
                packs[pack[:2]] = pack
        withdrawn = {mark for mark in packs if chance.random() < 0.3}
        one = together(apart(one)[0], {pack[:2] for pack in one[0] if chance.random() < 0.3})
        yield one, together(packs, withdrawn)


class TestOverlays(unittest.TestCase):
    def test_laid_over(self):
        for below, above in some_pairs(150):
            (packs, gone), (covers, gone_above) = apart(below), apart(above)
            wanted = together({**packs, **covers}, gone_above | {mark for mark in gone if mark not in covers})
            found = calls_alike(self, laid_over, below, above)
            self.assertTrue(same(found, wanted))
            self.assertTrue(is_registry(found))
            self.assertEqual([laid_over(below, ((), ())), laid_over(((), ()), above)], [below, above])

    def test_laid_over_withdrawn(self):
        below, above = ((A1, B1), (("a", ONE), ("b", ONE))), ((OTHER_A1, A2), (("a", TWO),))
        self.assertEqual(laid_over(below, above), ((OTHER_A1, A2, B1), (("a", TWO), ("b", ONE))))

    def test_only_names(self):
        for one, _ in some_pairs(60):
            for names in ((), ("a",), ("a", "c"), ("b", "x"), ("x",), ("a", "b", "c")):
                packs, withdrawn = apart(one)
                wanted = together({mark: packs[mark] for mark in packs if mark[0] in names},
                                  {mark for mark in withdrawn if mark[0] in names})
                self.assertTrue(same(calls_alike(self, only_names, one, names), wanted))


class TestChanges(unittest.TestCase):
    def test_change_between(self):
        for one, other in some_pairs(300):
            (old, gone), (new, gone_new) = apart(one), apart(other)
            dropped = {mark for mark in old if new.get(mark) != old[mark]}
            put = {mark: new[mark] for mark in new if old.get(mark) != new[mark]}
            change = calls_alike(self, change_between, one, other)
            self.assertTrue(same(change, (
                tuple(sorted(dropped)), tuple(put[mark] for mark in sorted(put)),
                tuple(sorted(mark for mark in gone_new if mark not in gone or mark in put)),
                tuple(sorted(mark for mark in gone if mark not in dropped and mark not in gone_new)))))
            self.assertTrue(same(calls_alike(self, changed_by, one, change), other))
            self.assertEqual(changed_by(other, change_between(other, one)), one)

    def test_nothing_between_the_same(self):
        for one, _ in some_pairs(20):
            self.assertTrue(same(change_between(one, one), ((), (), (), ())))
            self.assertTrue(same(changed_by(one, ((), (), (), ())), one))

    def test_pack_that_is_another_one_and_withdrawn(self):
        one, other = ((A1,), (("a", ONE),)), ((OTHER_A1,), (("a", ONE),))
        self.assertEqual(change_between(one, other), ((("a", ONE),), (OTHER_A1,), (("a", ONE),), ()))
        self.assertEqual(change_between(one, ((OTHER_A1,), ())), ((("a", ONE),), (OTHER_A1,), (), ()))
        self.assertEqual(change_between(one, ((A1,), ())), ((), (), (), (("a", ONE),)))
        self.assertEqual(change_between(one, ((), ())), ((("a", ONE),), (), (), ()))

    def test_order_of_a_change(self):
        marks = (("a", ONE),)
        self.assertEqual(changed_by(((A1, A2), ()), (marks, (OTHER_A1,), marks, ())), ((OTHER_A1, A2), marks))
        self.assertEqual(changed_by(((A1,), marks), (marks, (A1,), (), ())), ((A1,), ()))
        self.assertEqual(changed_by(((A1,), ()), ((), (), marks, marks)), ((A1,), ()))
        self.assertEqual(changed_by(((A1,), marks), ((), (), marks, ())), ((A1,), marks))
        self.assertEqual(changed_by(((A1,), ()), ((), (), (), marks)), ((A1,), ()))

    def test_first_error(self):
        a, b, gone, missing = ("a", ONE), ("b", ONE), ("x", THREE), ("c", THREE)
        for change, kind, mark in ((((a, gone), (A2, A2), (), ()), NoPack, gone), (((missing, gone), (), (), ()), NoPack, missing),
                                   (((b, ), (A1, ), (gone,), ()), Doubled, a), (((a,), (A1, A2), (gone,), ()), NoPack, gone),
                                   (((), (), (a, missing), (gone,)), NoPack, missing), (((a,), (), (a,), ()), NoPack, a),
                                   (((a,), (), (), (a, gone)), NoPack, a), (((), (), (), (gone,)), NoPack, gone),
                                   (((), (A1, B1), (), ()), Doubled, a), (((a,), (A1, B1), (gone,), ()), Doubled, b)):
            registry = ((A1, B1), ())
            with self.assertRaises(kind) as caught:
                changed_by(registry, change)
            self.assertTrue(same((caught.exception.name, caught.exception.version), mark), change)
            self.assertEqual(registry, ((A1, B1), ()))


if __name__ == "__main__":
    unittest.main()
